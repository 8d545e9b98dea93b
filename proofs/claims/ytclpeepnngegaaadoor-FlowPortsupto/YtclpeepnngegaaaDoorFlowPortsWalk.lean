/-
  FlowPorts: the walk.
-/
import Derived.Test.YtclpeepnngegaaaDoorF7Y
namespace Go.Proofs.YtclpeepnngegaaaDoor
open Go.RowKit Go.Maps

set_option maxHeartbeats 12800000 in
set_option maxRecDepth 100000 in
theorem flowPorts.walk (w : World) (hT : Gl w) (c : CF) (hc : ∀ i, i < 16 → c.o i < 256) (b : Option Addr) (len bcap : Nat) (ss : List SV) (hl : ss.length = len) (hs : ListG 41 stL SV.Wf w b ss) (hn : len ≤ 1048576) : Calls Tryd.prog 6 #[.agg (cfC c), .slice b len bcap] w fun e w' => e = .returned (.bool true) ∧ Below w.heap.size w w' := by
  have HG : Hid (Gl w ∧ (∀ i, i < 16 → c.o i < 256)) := ⟨hT, hc⟩
  have HS : Hid (ListG 41 stL SV.Wf w b ss ∧ ss.length = len ∧ len ≤ 1048576) := ⟨hs, hl, hn⟩
  have hlen := hn
  clear hT hc hs hl hn
  have hb := cfg_new w c
  have bel : Below w.heap.size w (w.alloc (.cells (cfC c) 26)) := (Below.refl _ _).alloc (Nat.le_refl _) _
  obtain ⟨CX, hC⟩ : ∃ C, C = cfC c := ⟨_, rfl⟩
  obtain ⟨W, hW⟩ : ∃ W_, W_ = w.alloc (.cells (cfC c) 26) := ⟨_, rfl⟩
  rw [← hW] at hb bel
  have HSZX : Hid (W.heap.size = w.heap.size + 1) := by show _ = _; rw [hW, World.size_alloc]
  obtain ⟨B, hB⟩ : ∃ B, B = w.heap.size := ⟨_, rfl⟩
  rw [← hB] at hb
  have HBX : Hid (CfgAt W B c) := hb
  rw [← hC] at hW ⊢
  have HOX : Hid (w.heap.size = B) := hB.symm
  have HLX : Hid (Below w.heap.size w W) := bel
  have HWX : Hid (w.alloc (.cells CX 26) = W) := hW.symm
  clear hb hW hB hC bel
  go_enter Tryd.func6, Tryd.ntmps6
  have QT : Hid _ := table_any c W w HG.out.2 HG.out.1 HLX.out
  go_wp2_with (first | (rw [HOX.out, HWX.out]) | (refine wpList_load_cfg (.tmp 2) rfl B c rfl HBX.out rfl ?_))
  refine Calls.mono QT.out ?_
  rintro e1 w1 ⟨t, M, N, cc, rfl, f1, b1⟩
  have H1 : Hid (FT w t M N cc [] w1 ∧ CfgAt w1 B c) := ⟨f1, HBX.out.below b1⟩
  have HBW : Hid (w.heap.size ≤ B) := by have := HOX.out; show _ ≤ _; omega
  clear f1 b1 QT
  go_upto_region 2 with (first | (refine wpList_store_cfg (.tmp 2) (.tmp 17) rfl rfl B c cc rfl rfl H1.out.2 rfl ?_; intro w2 h2 k2))
  have H2 : Hid (FT w t M N cc [] w2 ∧ CfgAt w2 B cc) := ⟨H1.out.1.chO k2 HBW.out (fun q hq e => H1.out.1.ta.nb H1.out.2 (by decide) (by decide) (by subst e; exact hq)), h2⟩
  clear h2 k2 H1
  have QB : Hid _ := begun_any w2 (H2.out.1.gl HG.out.1)
  go_wp2_with fail
  refine Calls.mono QB.out ?_
  rintro e3 w3 ⟨rfl, b3⟩
  have H3 : Hid (FT w t M N cc [] w3 ∧ CfgAt w3 B cc) := ⟨H2.out.1.below b3, H2.out.2.below b3⟩
  clear b3 QB H2
  obtain ⟨Y6, hY⟩ : ∃ Y, Y = w3.alloc (.cells (tuC xz) 34) := ⟨_, rfl⟩
  have bY : Below w3.heap.size w3 Y6 := by rw [hY]; exact (Below.refl _ _).alloc (Nat.le_refl _) _
  obtain ⟨O6, hO⟩ : ∃ O, O = w3.heap.size := ⟨_, rfl⟩
  have HNV : Hid (TupAt Y6 O6 xz) := by show TupAt Y6 O6 xz; rw [hY, hO]; exact tup_new w3 xz
  have HLV : Hid (Below w3.heap.size w3 Y6) := bY
  have HEV : Hid (w3.alloc (.cells (tuC xz) 34) = Y6) := hY.symm
  have HOV : Hid (w3.heap.size = O6) := hO.symm
  clear hY bY hO
  have H4 : Hid (FT w t M N cc [] Y6 ∧ TupAt Y6 O6 xz ∧ CfgAt Y6 B cc ∧ (∀ a : FV, a ∈ [] → OkP cc a.n) ∧ xz.Wf) := ⟨H3.out.1.below HLV.out, HNV.out, H3.out.2.below HLV.out, fun a ha => (by cases ha), xz_wf⟩
  have HO6 : Hid (w.heap.size ≤ O6 ∧ B < O6) := by have h1 := H3.out.1.bel.size; have h2 := HOV.out; have h3 := H3.out.2.lt; show _ ≤ _ ∧ _ < _; omega
  go_upto_region 5 with (first | (refine wpList_alloc_tup rfl rfl ?_; rw [HEV.out, HOV.out]))
  clear HNV HLV HEV HOV H3
  go_wp2_with fail
  go_loopw [7] (fun ix wr => ∃ (i : Nat) (E : List FV) (y : TU), ix = .int .i64 (i : Nat) ∧ i ≤ len ∧ Hid (FT w t M N cc E wr ∧ TupAt wr O6 y ∧ CfgAt wr B cc ∧ (∀ a : FV, a ∈ E → OkP cc a.n) ∧ y.Wf)) (fun ix _ => len - (intOf ix).toNat)
  case atStart => exact ⟨0, [], xz, rfl, Nat.zero_le _, H4.out⟩
  case round =>
    clear H4
    obtain ⟨i, E, y, rfl, hi, HI⟩ := hrel
    by_cases hgo : i < len ∧ i < 400
    · as_aux_lemma =>
        obtain ⟨hlt, h400⟩ := hgo
        have p1 : decide ((i : Int) < (len : Int)) = true := decide_eq_true (by omega)
        have p2 : decide (i < len) = true := decide_eq_true hlt
        have p3 : decide ((i : Int) < 400) = true := decide_eq_true (by omega)
        have p4 : decide (i < 400) = true := decide_eq_true h400
        have k0 : (0 : Int) ≤ (i : Int) := by omega
        have k1 : (i : Int) < (len : Int) := by omega
        have k2 : ((i : Int)).toNat = i := by omega
        have wi : IntKind.i64.wrap ((i : Int) + 1) = (i : Int) + 1 := i64_k _ (by omega) (by omega)
        obtain ⟨s, hsw, g, off, rfl, hrg⟩ := st_at HS.out.1 HI.out.1.bel i (by rw [HS.out.2.1]; exact hlt)
        have HRG : Hid (wr.rangeAt g (off + i * 41) (stC s).toList ∧ s.Wf) := ⟨hrg, hsw⟩
        have HLT : Hid (i < len) := hlt
        clear hrg hsw hlt hi h400
        go_upto_region 8 with fail
        clear p1 p2 p3 p4
        refine MixH.start (fun A => A.rangeAt g (off + i * 41) (stC s).toList) (by kernel_rfl) ?_
        obtain ⟨wA, hwA⟩ : ∃ wA, wA = wr.drew := ⟨_, rfl⟩
        have bdr : Below wr.heap.size wr wA := by rw [hwA]; exact (Below.refl _ _).drew
        have HA : Hid (FT w t M N cc E wA ∧ TupAt wA O6 y ∧ CfgAt wA B cc ∧ (∀ a : FV, a ∈ E → OkP cc a.n) ∧ y.Wf) := ⟨HI.out.1.below bdr, HI.out.2.1.below bdr, HI.out.2.2.1.below bdr, HI.out.2.2.2.1, HI.out.2.2.2.2⟩
        have hS : wA.rangeAt g (off + i * 41) (stC s).toList := rng_drew hwA HRG.out.1
        have HGL : Hid (g < w.heap.size) := st_lt HS.out.1 (by rw [HS.out.2.1]; exact HLT.out) rfl
        rw [← hwA]
        clear hwA bdr
        have QR : Hid _ := runs_any t M N cc E w wA HA.out.1 HG.out.1 s HRG.out.2 y HA.out.2.2.2.2
        clear HI HRG
        refine MixH.takes [true, true, true, true] 7 (by kernel_rfl) (by kernel_rfl) (by decide) (by kernel_rfl) hS (fun K hK => ?_)
        simp only [Mix.pick]
        repeat (go_big_quiet_step (fail))
        refine wpQuiet_nil (hK _ ?_)
        clear hK K
        refine MixH.take 6 4 _ (.agg (stC s)) rfl (by kernel_rfl) (by kernel_rfl) (by kernel_rfl) (by kernel_rfl) (yields_stp (.tmp 38) rfl g (off + i * 41) s rfl rfl (fun A hA => hA)) hS (fun a' ha => ?_)
        simp only [Act.put, List.setIfInBounds_toArray, List.set_cons_succ, List.set_cons_zero] at ha
        subst ha
        refine MixH.one [false, false, false, false, false, true] 5 5 _ rfl rfl (by kernel_rfl) (by kernel_rfl) (fun K hK => ?_)
        simp only [Mix.pick]
        go_wp2_with (first | (refine wpList_load_tup (.tmp 6) rfl O6 y rfl HA.out.2.1 rfl ?_))
        refine ⟨rfl, hK _ _ hS ?_⟩
        clear hK K
        refine MixH.one [false, false, false, false, false, false, true] 4 6 _ rfl rfl (by kernel_rfl) (by kernel_rfl) (fun K hK => ?_)
        simp only [Mix.pick]
        go_wp2_with fail
        refine Calls.mono QR.out ?_
        rintro e5 w5 ⟨y5, b5, E5, rfl, hR, _, hF, hy5, kt⟩
        have H5 : Hid (FT w t M N cc E5 w5 ∧ TupAt w5 O6 y ∧ CfgAt w5 B cc ∧ (∀ a : FV, a ∈ E5 → OkP cc a.n) ∧ y5.Wf) := ⟨hF, HA.out.2.1.kt kt, HA.out.2.2.1.kt kt, OkP.run HA.out.1.ok HA.out.2.2.2.1 hR, hy5⟩
        replace hS : w5.rangeAt g (off + i * 41) (stC s).toList := rng_old HA.out.1.bel H5.out.1.bel HGL.out hS
        clear hF hy5 kt QR HA hR
        go_wp2_with fail
        refine ⟨rfl, hK _ _ hS ?_⟩
        clear hK K
        refine MixH.takes [false, false, false, false, false, false, false, true, true, true] 1 (by kernel_rfl) (by kernel_rfl) (by decide) (by kernel_rfl) hS (fun K hK => ?_)
        simp only [Mix.pick]
        repeat (go_big_quiet_step (fail))
        refine wpQuiet_nil (hK _ ?_)
        clear hK K
        refine MixH.one [false, false, false, false, false, false, false, false, false, false, true] 0 10 _ rfl rfl (by kernel_rfl) (by kernel_rfl) (fun K hK => ?_)
        simp only [Mix.pick]
        refine wpList_store_tup (.tmp 6) (.tmp 42) rfl rfl O6 y y5 rfl rfl H5.out.2.1 rfl ?_
        intro w6 h6 k6
        have H6 : Hid (FT w t M N cc E5 w6 ∧ TupAt w6 O6 y5 ∧ CfgAt w6 B cc ∧ (∀ a : FV, a ∈ E5 → OkP cc a.n) ∧ y5.Wf) := ⟨H5.out.1.chO k6 HO6.out.1 (fun q hq e => H5.out.1.ta.nb H5.out.2.1 (by decide) (by decide) (by subst e; exact hq)), h6, H5.out.2.2.1.ch k6 (by have := HO6.out.2; omega), H5.out.2.2.2.1, H5.out.2.2.2.2⟩
        replace hS : w6.rangeAt g (off + i * 41) (stC s).toList := rng_old H5.out.1.bel H6.out.1.bel HGL.out hS
        clear h6 k6
        go_wp2_with fail
        refine ⟨rfl, hK _ _ hS ?_⟩
        clear hK K
        refine MixH.done (by kernel_rfl) ?_
        clear hS H5 k0 k1 k2
        obtain ⟨E, rfl⟩ : ∃ X, X = E5 := ⟨_, rfl⟩
        have QD : Hid _ := H6.out.1.dump
        go_wp2_with fail
        refine Calls.mono QD.out ?_
        rintro e7 w7 ⟨vS, S, rfl, hD, hF, ⟨gS, cS, rfl⟩, b7⟩
        obtain ⟨nS, hnS⟩ : ∃ n, S.length = n := ⟨_, rfl⟩
        rw [hnS] at hF ⊢
        have hnE : nS = E.length := by have h1 := hD.1.length_eq; rw [List.length_map] at h1; omega
        have HD : Hid (DumpR E S ∧ S.length = nS ∧ nS = E.length) := ⟨hD, hnS, hnE⟩
        have hn4 : nS ≤ 4096 := by have h2 := H6.out.1.len; omega
        have H7 : Hid ((FT w t M N cc E w7 ∧ TupAt w7 O6 y5 ∧ CfgAt w7 B cc ∧ (∀ a : FV, a ∈ E → OkP cc a.n) ∧ y5.Wf) ∧ FL w7 w6.heap.size (.slice (some ⟨gS, 0, none⟩) nS cS) S) := ⟨⟨H6.out.1.below b7, H6.out.2.1.below b7, H6.out.2.2.1.below b7, H6.out.2.2.2.1, H6.out.2.2.2.2⟩, hF⟩
        have c0 : w7.cell? ⟨B, 0, none⟩ = some (.int .i64 cc.mx) := H7.out.1.2.2.1.c0
        have t0 : decide (cc.mx < (nS : Int)) = false := decide_eq_false (by have := H6.out.1.ln; omega)
        have QL : Hid _ := H7.out.1.1.lens
        rw [← hnE] at QL
        have tn : ((nS : Int) != (nS : Int)) = false := by simp
        clear hD hF b7 QD H6 hnS hnE
        go_wp2_with fail
        refine Calls.mono QL.out ?_
        rintro e8 w8 ⟨rfl, rfl⟩
        clear QL
        go_upto_region 12 with fail
        clear c0 t0 tn
        go_wp2_with fail
        go_loopw [9] (fun kx wr => ∃ k : Nat, kx = .int .i64 (k : Nat) ∧ k ≤ nS ∧ Hid (Below w7.heap.size w7 wr)) (fun kx _ => nS - (intOf kx).toNat)
        case atStart => exact ⟨0, rfl, Nat.zero_le _, Below.refl _ _⟩
        case round =>
          obtain ⟨k, rfl, hk, HK⟩ := hrel
          by_cases hkn : k < nS
          case neg =>
            have a1 : decide ((k : Int) < (nS : Int)) = false := decide_eq_false (by omega)
            have a2 : decide (k < nS) = false := decide_eq_false hkn
            clear hkn hk
            have H9 : Hid (FT w t M N cc E wr ∧ TupAt wr O6 y5 ∧ CfgAt wr B cc ∧ (∀ a : FV, a ∈ E → OkP cc a.n) ∧ y5.Wf) := ⟨H7.out.1.1.below HK.out, H7.out.1.2.1.below HK.out, H7.out.1.2.2.1.below HK.out, H7.out.1.2.2.2.1, H7.out.1.2.2.2.2⟩
            go_wp2_with fail
            go_roundw
            case rel => exact ⟨i + 1, E, y5, by first | rfl | go_num, by have := HLT.out; omega, H9.out⟩
            case measure => have := HLT.out; simp [intOf]; omega
          have a1 : decide ((k : Int) < (nS : Int)) = true := decide_eq_true (by omega)
          have a2 : decide (k < nS) = true := decide_eq_true hkn
          have k0 : (0 : Int) ≤ (k : Int) := by omega
          have k1 : (k : Int) < (nS : Int) := by omega
          have k2 : ((k : Int)).toNat = k := by omega
          have wk : IntKind.i64.wrap ((k : Int) + 1) = (k : Int) + 1 := i64_k _ (by omega) (by omega)
          obtain ⟨f, hf⟩ : ∃ f, S[k]? = some f := ⟨_, List.getElem?_eq_getElem (by rw [HD.out.2.1]; exact hkn)⟩
          have hfok : OkP cc f ∧ 1 ≤ f.le := by
            obtain ⟨e, he, rfl⟩ := List.mem_map.1 (HD.out.1.1.mem_iff.1 (List.mem_of_getElem? hf))
            exact ⟨H7.out.1.2.2.2.1 e he, (H7.out.1.1.le e he).lo⟩
          have hfr : wr.rangeAt gS (k * 40) (flC f).toList := by
            obtain ⟨g1, d1, e1, _, _, r1⟩ := (H7.out.2.below HK.out).at k f hf
            simp only [Value.slice.injEq, Option.some.injEq, Addr.mk.injEq, and_true] at e1
            obtain ⟨rfl, _⟩ := e1
            exact r1
          have HF : Hid (S[k]? = some f ∧ wr.rangeAt gS (k * 40) (flC f).toList ∧ OkP cc f) := ⟨hf, hfr, hfok.1⟩
          have HKN : Hid (k < nS ∧ nS ≤ 4096) := ⟨hkn, hn4⟩
          obtain ⟨YF, hY⟩ : ∃ Y, Y = wr.alloc (.cells (flC fz0) 55) := ⟨_, rfl⟩
          have bY : Below wr.heap.size wr YF := by rw [hY]; exact (Below.refl _ _).alloc (Nat.le_refl _) _
          obtain ⟨OF, hO⟩ : ∃ O, O = wr.heap.size := ⟨_, rfl⟩
          have HNF : Hid (FloAt YF OF fz0) := by show FloAt YF OF fz0; rw [hY, hO]; exact flo_new wr fz0
          have HLF : Hid (Below wr.heap.size wr YF) := bY
          have HEF : Hid (wr.alloc (.cells (flC fz0) 55) = YF) := hY.symm
          have HOF : Hid (wr.heap.size = OF) := hO.symm
          clear hY bY hO
          go_upto_region 16 with (first | (refine wpList_mid_flo (.tmp 66) rfl gS (k * 40) f rfl HF.out.2.1 rfl ?_) | (refine wpList_alloc_flo rfl rfl ?_; rw [HEF.out, HOF.out]) | (refine wpList_store_flo (.tmp 10) (.tmp 67) rfl rfl OF fz0 f rfl rfl HNF.out rfl ?_; intro w9 h9 k9))
          have H9 : Hid (FloAt w9 OF f ∧ Below w7.heap.size w7 w9) := by
            have b1 : Below wr.heap.size wr w9 := HLF.out.trans (k9.below (fun q hq => by have hq' : q = OF := hq; have := HOF.out; omega) HLF.out.size)
            exact ⟨h9, HK.out.trans (b1.mono HK.out.size)⟩
          clear h9 k9 HNF HLF HEF HOF hf hfr hkn hk HK a1 a2
          obtain ⟨fle, hle⟩ : ∃ z, f.le = z := ⟨_, rfl⟩
          obtain ⟨po, hpo⟩ : ∃ z, f.po = z := ⟨_, rfl⟩
          obtain ⟨sv, hsv⟩ : ∃ z, f.x.sV = z := ⟨_, rfl⟩
          obtain ⟨sp, hsp⟩ : ∃ z, f.x.sp = z := ⟨_, rfl⟩
          have d39 : w9.cell? ⟨OF, 39, none⟩ = some (.int .i64 fle) := by have h1 := H9.out.1.c39; rw [hle] at h1; exact h1
          have d37 : w9.cell? ⟨OF, 37, none⟩ = some (.int .i64 po) := by have h1 := H9.out.1.c37; rw [hpo] at h1; exact h1
          have d1 : w9.cell? ⟨OF, 1, none⟩ = some (.int .i64 sv) := by have h1 := H9.out.1.cell 1; rw [← hsv]; exact h1
          have d35 : w9.cell? ⟨OF, 35, none⟩ = some (.int .i64 sp) := by have h1 := H9.out.1.cell 35; rw [← hsp]; exact h1
          have HCF : Hid (CfgAt w9 B cc) := H7.out.1.2.2.1.below H9.out.2
          have d18 : w9.cell? ⟨B, 18, none⟩ = some (.int .i64 cc.lo) := HCF.out.c18
          have d19 : w9.cell? ⟨B, 19, none⟩ = some (.int .i64 cc.hi) := HCF.out.c19
          have tle : decide (fle < 1) = false := decide_eq_false (by rw [← hle]; have := hfok.2; omega)
          have hok := hfok.1
          unfold OkP at hok
          rw [hsv, hpo, hsp] at hok
          have HSV : Hid (f.x.sV = sv ∧ f.po = po) := ⟨hsv, hpo⟩
          clear hfok hle hpo hsv hsp
          by_cases h4 : sv = 4
          · have q4 : (sv == 4) = true := by simpa using h4
            have q6 : (sv == 6) = false := by rw [h4]; rfl
            have tlo : decide (po < cc.lo) = false := decide_eq_false (by have := (hok.2.1 h4).1; omega)
            have thi : decide (cc.hi < po) = false := decide_eq_false (by have := (hok.2.1 h4).2; omega)
            have HV : Hid (sv = 4) := h4
            clear h4 hok
            go_upto_region 18 with fail
            clear d39 d37 d1 d35 d18 d19 tle q6 tlo thi q4
            as_aux_lemma =>
              go_wp2_with fail
              go_loopw [11] (fun jx wr => ∃ j : Nat, jx = .int .i64 (j : Nat) ∧ j ≤ k ∧ Hid (Below w9.heap.size w9 wr)) (fun jx _ => k - (intOf jx).toNat)
              case atStart => exact ⟨0, rfl, Nat.zero_le _, Below.refl _ _⟩
              case round =>
                obtain ⟨j, rfl, hj, HJ⟩ := hrel
                by_cases hjk : j < k
                case neg =>
                  have b1 : decide ((j : Int) < (k : Int)) = false := decide_eq_false (by omega)
                  have b2 : decide (j < k) = false := decide_eq_false hjk
                  clear hjk hj
                  have HZ : Hid (Below w7.heap.size w7 wr) := H9.out.2.trans (HJ.out.mono H9.out.2.size)
                  go_wp2_with fail
                  go_roundw
                  case rel => exact ⟨k + 1, by first | rfl | go_num, by have := HKN.out; omega, HZ.out⟩
                  case measure => have := HKN.out; simp [intOf]; omega
                have b1 : decide ((j : Int) < (k : Int)) = true := decide_eq_true (by omega)
                have b2 : decide (j < k) = true := decide_eq_true hjk
                have j0 : (0 : Int) ≤ (j : Int) := by omega
                have j1 : (j : Int) < (nS : Int) := by have := HKN.out; omega
                have j2 : ((j : Int)).toNat = j := by omega
                have wj : IntKind.i64.wrap ((j : Int) + 1) = (j : Int) + 1 := i64_k _ (by omega) (by have := HKN.out; omega)
                obtain ⟨g2, hg2⟩ : ∃ g, S[j]? = some g := ⟨_, List.getElem?_eq_getElem (by rw [HD.out.2.1]; have := HKN.out; omega)⟩
                have hgok : OkP cc g2 := by
                  obtain ⟨e, he, rfl⟩ := List.mem_map.1 (HD.out.1.1.mem_iff.1 (List.mem_of_getElem? hg2))
                  exact H7.out.1.2.2.2.1 e he
                have hgr : wr.rangeAt gS (j * 40) (flC g2).toList := by
                  obtain ⟨g1, d1, e1, _, _, r1⟩ := (H7.out.2.below (H9.out.2.trans (HJ.out.mono H9.out.2.size))).at j g2 hg2
                  simp only [Value.slice.injEq, Option.some.injEq, Addr.mk.injEq, and_true] at e1
                  obtain ⟨rfl, _⟩ := e1
                  exact r1
                have hsep : Sep g2 f := dump_sep H7.out.1.1.ta HD.out.1 hjk hg2 HF.out.1
                have HE : Hid (eqP g2.x f.x = false ∧ eqP (goT cc g2) (goT cc f) = false) := ⟨hsep.1, go_ne H7.out.1.1.ok hsep hgok HF.out.2.2⟩
                have HSP : Hid (¬ (g2.x.sV = 4 ∧ f.x.sV = 4 ∧ g2.x.pr = f.x.pr ∧ g2.po = f.po)) := hsep.2
                have HGR : Hid (wr.rangeAt gS (j * 40) (flC g2).toList) := hgr
                have HJK : Hid (j < k) := hjk
                clear hg2 hgok hgr hsep hjk hj
                obtain ⟨YG, hY⟩ : ∃ Y, Y = wr.alloc (.cells (flC fz0) 55) := ⟨_, rfl⟩
                have bY : Below wr.heap.size wr YG := by rw [hY]; exact (Below.refl _ _).alloc (Nat.le_refl _) _
                obtain ⟨OG, hO⟩ : ∃ O, O = wr.heap.size := ⟨_, rfl⟩
                have HNG : Hid (FloAt YG OG fz0) := by show FloAt YG OG fz0; rw [hY, hO]; exact flo_new wr fz0
                have HLG : Hid (Below wr.heap.size wr YG) := bY
                have HEG : Hid (wr.alloc (.cells (flC fz0) 55) = YG) := hY.symm
                have HOG : Hid (wr.heap.size = OG) := hO.symm
                clear hY bY hO
                go_upto_region 22 with (first | (refine wpList_mid_flo (.tmp 114) rfl gS (j * 40) g2 rfl HGR.out rfl ?_) | (refine wpList_alloc_flo rfl rfl ?_; rw [HEG.out, HOG.out]) | (refine wpList_store_flo (.tmp 12) (.tmp 115) rfl rfl OG fz0 g2 rfl rfl HNG.out rfl ?_; intro w10 h10 k10))
                have H10 : Hid (FloAt w10 OG g2 ∧ Below w9.heap.size w9 w10) := by
                  have b1 : Below wr.heap.size wr w10 := HLG.out.trans (k10.below (fun q hq => by have hq' : q = OG := hq; have := HOG.out; omega) HLG.out.size)
                  exact ⟨h10, HJ.out.trans (b1.mono HJ.out.size)⟩
                clear h10 k10 HNG HLG HEG HOG HJ HGR b1 b2
                simp only [Act.put, List.setIfInBounds_toArray, List.set_cons_succ, List.set_cons_zero]
                refine MixH.start (fun A => FloAt A OG g2 ∧ FloAt A OF f ∧ CfgAt A B cc) (by kernel_rfl) ?_
                obtain ⟨wB, hwB⟩ : ∃ wB, wB = w10.drew := ⟨_, rfl⟩
                have bdr : Below w10.heap.size w10 wB := by rw [hwB]; exact (Below.refl _ _).drew
                have HB1 : Hid (Below w9.heap.size w9 wB) := H10.out.2.trans (bdr.mono H10.out.2.size)
                have hS : FloAt wB OG g2 ∧ FloAt wB OF f ∧ CfgAt wB B cc := ⟨H10.out.1.below bdr, H9.out.1.below HB1.out, HCF.out.below HB1.out⟩
                rw [← hwB]
                clear hwB bdr H10
                refine MixH.takes [true, false, true] 12 (by kernel_rfl) (by kernel_rfl) (by decide) (by kernel_rfl) hS (fun K hK => ?_)
                simp only [Mix.pick]
                repeat (go_big_quiet_step (fail))
                refine wpQuiet_nil (hK _ ?_)
                clear hK K
                refine MixH.take 11 1 _ (.agg (tuC g2.x)) rfl (by kernel_rfl) (by kernel_rfl) (by kernel_rfl) (by kernel_rfl) (yields_tup (.tmp 116) rfl OG 0 g2.x rfl rfl (fun A hA => hA.1.tup)) hS (fun a' ha => ?_)
                simp only [Act.put, List.setIfInBounds_toArray, List.set_cons_succ, List.set_cons_zero] at ha
                subst ha
                refine MixH.take 10 3 _ (.agg (tuC f.x)) rfl (by kernel_rfl) (by kernel_rfl) (by kernel_rfl) (by kernel_rfl) (yields_tup (.tmp 118) rfl OF 0 f.x rfl rfl (fun A hA => hA.2.1.tup)) hS (fun a' ha => ?_)
                simp only [Act.put, List.setIfInBounds_toArray, List.set_cons_succ, List.set_cons_zero] at ha
                subst ha
                refine MixH.take 9 4 _ (.bool false) rfl (by kernel_rfl) (by kernel_rfl) (by kernel_rfl) (by kernel_rfl) (yields_eql_tu (.tmp 117) (.tmp 119) rfl g2.x f.x rfl rfl false HE.out.1 rfl) hS (fun a' ha => ?_)
                simp only [Act.put, List.setIfInBounds_toArray, List.set_cons_succ, List.set_cons_zero] at ha
                subst ha
                refine MixH.takes [false, false, false, false, false, true] 8 (by kernel_rfl) (by kernel_rfl) (by decide) (by kernel_rfl) hS (fun K hK => ?_)
                simp only [Mix.pick]
                repeat (go_big_quiet_step (fail))
                refine wpQuiet_nil (hK _ ?_)
                clear hK K
                refine MixH.take 7 6 _ (.agg (cfC cc)) rfl (by kernel_rfl) (by kernel_rfl) (by kernel_rfl) (by kernel_rfl) (yields_cfg (.tmp 2) rfl B 0 cc rfl rfl (fun A hA => cfg_rng hA.2.2)) hS (fun a' ha => ?_)
                simp only [Act.put, List.setIfInBounds_toArray, List.set_cons_succ, List.set_cons_zero] at ha
                subst ha
                refine MixH.take 6 7 _ (.agg (flC g2)) rfl (by kernel_rfl) (by kernel_rfl) (by kernel_rfl) (by kernel_rfl) (yields_flo (.tmp 12) rfl OG 0 g2 rfl rfl (fun A hA => hA.1.all)) hS (fun a' ha => ?_)
                simp only [Act.put, List.setIfInBounds_toArray, List.set_cons_succ, List.set_cons_zero] at ha
                subst ha
                refine MixH.take 5 9 _ (.agg (cfC cc)) rfl (by kernel_rfl) (by kernel_rfl) (by kernel_rfl) (by kernel_rfl) (yields_cfg (.tmp 2) rfl B 0 cc rfl rfl (fun A hA => cfg_rng hA.2.2)) hS (fun a' ha => ?_)
                simp only [Act.put, List.setIfInBounds_toArray, List.set_cons_succ, List.set_cons_zero] at ha
                subst ha
                refine MixH.take 4 10 _ (.agg (flC f)) rfl (by kernel_rfl) (by kernel_rfl) (by kernel_rfl) (by kernel_rfl) (yields_flo (.tmp 10) rfl OF 0 f rfl rfl (fun A hA => hA.2.1.all)) hS (fun a' ha => ?_)
                simp only [Act.put, List.setIfInBounds_toArray, List.set_cons_succ, List.set_cons_zero] at ha
                subst ha
                refine MixH.one [false, false, false, false, false, false, false, false, true] 3 8 _ rfl rfl (by kernel_rfl) (by kernel_rfl) (fun K hK => ?_)
                simp only [Mix.pick]
                go_wp2_with fail
                refine Calls.mono (goesOut_any cc g2 wB) ?_
                rintro e11 w11 ⟨rfl, b11⟩
                replace hS : FloAt w11 OG g2 ∧ FloAt w11 OF f ∧ CfgAt w11 B cc := ⟨hS.1.below b11, hS.2.1.below b11, hS.2.2.below b11⟩
                have HB2 : Hid (Below w9.heap.size w9 w11) := HB1.out.trans (b11.mono HB1.out.size)
                clear b11 HB1
                go_wp2_with fail
                refine ⟨rfl, hK _ _ hS ?_⟩
                clear hK K
                refine MixH.one [false, false, false, false, false, false, false, false, false, false, false, true] 2 11 _ rfl rfl (by kernel_rfl) (by kernel_rfl) (fun K hK => ?_)
                simp only [Mix.pick]
                go_wp2_with fail
                refine Calls.mono (goesOut_any cc f w11) ?_
                rintro e12 w12 ⟨rfl, b12⟩
                replace hS : FloAt w12 OG g2 ∧ FloAt w12 OF f ∧ CfgAt w12 B cc := ⟨hS.1.below b12, hS.2.1.below b12, hS.2.2.below b12⟩
                have HB3 : Hid (Below w9.heap.size w9 w12) := HB2.out.trans (b12.mono HB2.out.size)
                clear b12 HB2
                go_wp2_with fail
                refine ⟨rfl, hK _ _ hS ?_⟩
                clear hK K
                refine MixH.take 1 12 _ (.bool false) rfl (by kernel_rfl) (by kernel_rfl) (by kernel_rfl) (by kernel_rfl) (yields_eql_tu (.tmp 124) (.tmp 127) rfl (goT cc g2) (goT cc f) rfl rfl false HE.out.2 rfl) hS (fun a' ha => ?_)
                simp only [Act.put, List.setIfInBounds_toArray, List.set_cons_succ, List.set_cons_zero] at ha
                subst ha
                refine MixH.takes [false, false, false, false, false, false, false, false, false, false, false, false, false, true] 0 (by kernel_rfl) (by kernel_rfl) (by decide) (by kernel_rfl) hS (fun K hK => ?_)
                simp only [Mix.pick]
                repeat (go_big_quiet_step (fail))
                refine wpQuiet_nil (hK _ ?_)
                clear hK K
                refine MixH.done (by kernel_rfl) ?_
                have HX : Hid (Below w9.heap.size w9 w12 ∧ FloAt w12 OG g2 ∧ FloAt w12 OF f) := ⟨HB3.out, hS.1, hS.2.1⟩
                clear hS HB3 HE
                obtain ⟨gsv, hgs⟩ : ∃ z, g2.x.sV = z := ⟨_, rfl⟩
                have g1 : w12.cell? ⟨OG, 1, none⟩ = some (.int .i64 gsv) := by have h1 := HX.out.2.1.cell 1; rw [← hgs]; exact h1
                have f1 : w12.cell? ⟨OF, 1, none⟩ = some (.int .i64 sv) := by have h1 := HX.out.2.2.cell 1; rw [← HSV.out.1]; exact h1
                have q4 : (sv == 4) = true := by rw [HV.out]; rfl
                by_cases hg4 : gsv = 4
                · have p4 : (gsv == 4) = true := by simpa using hg4
                  obtain ⟨gpr, hgp⟩ : ∃ z, g2.x.pr = z := ⟨_, rfl⟩
                  obtain ⟨fpr, hfp⟩ : ∃ z, f.x.pr = z := ⟨_, rfl⟩
                  have g0 : w12.cell? ⟨OG, 0, none⟩ = some (.int .i64 gpr) := by have h1 := HX.out.2.1.cell 0; rw [← hgp]; exact h1
                  have f0 : w12.cell? ⟨OF, 0, none⟩ = some (.int .i64 fpr) := by have h1 := HX.out.2.2.cell 0; rw [← hfp]; exact h1
                  by_cases hpr : gpr = fpr
                  · have p0 : (gpr == fpr) = true := by simpa using hpr
                    obtain ⟨gpo, hgo⟩ : ∃ z, g2.po = z := ⟨_, rfl⟩
                    have g37 : w12.cell? ⟨OG, 37, none⟩ = some (.int .i64 gpo) := by have h1 := HX.out.2.1.c37; rw [hgo] at h1; exact h1
                    have f37 : w12.cell? ⟨OF, 37, none⟩ = some (.int .i64 po) := by have h1 := HX.out.2.2.c37; rw [HSV.out.2] at h1; exact h1
                    have p37 : (gpo == po) = false := beq_eq_false_iff_ne.2 (fun e => HSP.out ⟨by rw [hgs, hg4], by rw [HSV.out.1, HV.out], by rw [hgp, hfp, hpr], by rw [hgo, HSV.out.2, e]⟩)
                    clear hg4 hpr hgo hgp hfp hgs
                    go_wp2_with fail
                    go_roundw
                    case rel => exact ⟨j + 1, by first | rfl | go_num, by have := HJK.out; omega, HX.out.1⟩
                    case measure => have := HJK.out; simp [intOf]; omega
                  · have p0 : (gpr == fpr) = false := beq_eq_false_iff_ne.2 hpr
                    clear hg4 hpr hgp hfp hgs
                    go_wp2_with fail
                    go_roundw
                    case rel => exact ⟨j + 1, by first | rfl | go_num, by have := HJK.out; omega, HX.out.1⟩
                    case measure => have := HJK.out; simp [intOf]; omega
                · have p4 : (gsv == 4) = false := by simpa using hg4
                  clear hg4 hgs
                  go_wp2_with fail
                  go_roundw
                  case rel => exact ⟨j + 1, by first | rfl | go_num, by have := HJK.out; omega, HX.out.1⟩
                  case measure => have := HJK.out; simp [intOf]; omega
          · have q4 : (sv == 4) = false := by simpa using h4
            have h6 : sv = 6 := hok.1.resolve_left h4
            have q6 : (sv == 6) = true := by rw [h6]; rfl
            have tps : (po != sp) = false := by rw [hok.2.2 h6]; simp
            have HV : Hid (sv = 6) := h6
            clear h4 h6 hok
            go_upto_region 18 with fail
            clear d39 d37 d1 d35 d18 d19 tle q6 tps q4
            as_aux_lemma =>
              go_wp2_with fail
              go_loopw [11] (fun jx wr => ∃ j : Nat, jx = .int .i64 (j : Nat) ∧ j ≤ k ∧ Hid (Below w9.heap.size w9 wr)) (fun jx _ => k - (intOf jx).toNat)
              case atStart => exact ⟨0, rfl, Nat.zero_le _, Below.refl _ _⟩
              case round =>
                obtain ⟨j, rfl, hj, HJ⟩ := hrel
                by_cases hjk : j < k
                case neg =>
                  have b1 : decide ((j : Int) < (k : Int)) = false := decide_eq_false (by omega)
                  have b2 : decide (j < k) = false := decide_eq_false hjk
                  clear hjk hj
                  have HZ : Hid (Below w7.heap.size w7 wr) := H9.out.2.trans (HJ.out.mono H9.out.2.size)
                  go_wp2_with fail
                  go_roundw
                  case rel => exact ⟨k + 1, by first | rfl | go_num, by have := HKN.out; omega, HZ.out⟩
                  case measure => have := HKN.out; simp [intOf]; omega
                have b1 : decide ((j : Int) < (k : Int)) = true := decide_eq_true (by omega)
                have b2 : decide (j < k) = true := decide_eq_true hjk
                have j0 : (0 : Int) ≤ (j : Int) := by omega
                have j1 : (j : Int) < (nS : Int) := by have := HKN.out; omega
                have j2 : ((j : Int)).toNat = j := by omega
                have wj : IntKind.i64.wrap ((j : Int) + 1) = (j : Int) + 1 := i64_k _ (by omega) (by have := HKN.out; omega)
                obtain ⟨g2, hg2⟩ : ∃ g, S[j]? = some g := ⟨_, List.getElem?_eq_getElem (by rw [HD.out.2.1]; have := HKN.out; omega)⟩
                have hgok : OkP cc g2 := by
                  obtain ⟨e, he, rfl⟩ := List.mem_map.1 (HD.out.1.1.mem_iff.1 (List.mem_of_getElem? hg2))
                  exact H7.out.1.2.2.2.1 e he
                have hgr : wr.rangeAt gS (j * 40) (flC g2).toList := by
                  obtain ⟨g1, d1, e1, _, _, r1⟩ := (H7.out.2.below (H9.out.2.trans (HJ.out.mono H9.out.2.size))).at j g2 hg2
                  simp only [Value.slice.injEq, Option.some.injEq, Addr.mk.injEq, and_true] at e1
                  obtain ⟨rfl, _⟩ := e1
                  exact r1
                have hsep : Sep g2 f := dump_sep H7.out.1.1.ta HD.out.1 hjk hg2 HF.out.1
                have HE : Hid (eqP g2.x f.x = false ∧ eqP (goT cc g2) (goT cc f) = false) := ⟨hsep.1, go_ne H7.out.1.1.ok hsep hgok HF.out.2.2⟩
                have HSP : Hid (¬ (g2.x.sV = 4 ∧ f.x.sV = 4 ∧ g2.x.pr = f.x.pr ∧ g2.po = f.po)) := hsep.2
                have HGR : Hid (wr.rangeAt gS (j * 40) (flC g2).toList) := hgr
                have HJK : Hid (j < k) := hjk
                clear hg2 hgok hgr hsep hjk hj
                obtain ⟨YG, hY⟩ : ∃ Y, Y = wr.alloc (.cells (flC fz0) 55) := ⟨_, rfl⟩
                have bY : Below wr.heap.size wr YG := by rw [hY]; exact (Below.refl _ _).alloc (Nat.le_refl _) _
                obtain ⟨OG, hO⟩ : ∃ O, O = wr.heap.size := ⟨_, rfl⟩
                have HNG : Hid (FloAt YG OG fz0) := by show FloAt YG OG fz0; rw [hY, hO]; exact flo_new wr fz0
                have HLG : Hid (Below wr.heap.size wr YG) := bY
                have HEG : Hid (wr.alloc (.cells (flC fz0) 55) = YG) := hY.symm
                have HOG : Hid (wr.heap.size = OG) := hO.symm
                clear hY bY hO
                go_upto_region 22 with (first | (refine wpList_mid_flo (.tmp 114) rfl gS (j * 40) g2 rfl HGR.out rfl ?_) | (refine wpList_alloc_flo rfl rfl ?_; rw [HEG.out, HOG.out]) | (refine wpList_store_flo (.tmp 12) (.tmp 115) rfl rfl OG fz0 g2 rfl rfl HNG.out rfl ?_; intro w10 h10 k10))
                have H10 : Hid (FloAt w10 OG g2 ∧ Below w9.heap.size w9 w10) := by
                  have b1 : Below wr.heap.size wr w10 := HLG.out.trans (k10.below (fun q hq => by have hq' : q = OG := hq; have := HOG.out; omega) HLG.out.size)
                  exact ⟨h10, HJ.out.trans (b1.mono HJ.out.size)⟩
                clear h10 k10 HNG HLG HEG HOG HJ HGR b1 b2
                simp only [Act.put, List.setIfInBounds_toArray, List.set_cons_succ, List.set_cons_zero]
                refine MixH.start (fun A => FloAt A OG g2 ∧ FloAt A OF f ∧ CfgAt A B cc) (by kernel_rfl) ?_
                obtain ⟨wB, hwB⟩ : ∃ wB, wB = w10.drew := ⟨_, rfl⟩
                have bdr : Below w10.heap.size w10 wB := by rw [hwB]; exact (Below.refl _ _).drew
                have HB1 : Hid (Below w9.heap.size w9 wB) := H10.out.2.trans (bdr.mono H10.out.2.size)
                have hS : FloAt wB OG g2 ∧ FloAt wB OF f ∧ CfgAt wB B cc := ⟨H10.out.1.below bdr, H9.out.1.below HB1.out, HCF.out.below HB1.out⟩
                rw [← hwB]
                clear hwB bdr H10
                refine MixH.takes [true, false, true] 12 (by kernel_rfl) (by kernel_rfl) (by decide) (by kernel_rfl) hS (fun K hK => ?_)
                simp only [Mix.pick]
                repeat (go_big_quiet_step (fail))
                refine wpQuiet_nil (hK _ ?_)
                clear hK K
                refine MixH.take 11 1 _ (.agg (tuC g2.x)) rfl (by kernel_rfl) (by kernel_rfl) (by kernel_rfl) (by kernel_rfl) (yields_tup (.tmp 116) rfl OG 0 g2.x rfl rfl (fun A hA => hA.1.tup)) hS (fun a' ha => ?_)
                simp only [Act.put, List.setIfInBounds_toArray, List.set_cons_succ, List.set_cons_zero] at ha
                subst ha
                refine MixH.take 10 3 _ (.agg (tuC f.x)) rfl (by kernel_rfl) (by kernel_rfl) (by kernel_rfl) (by kernel_rfl) (yields_tup (.tmp 118) rfl OF 0 f.x rfl rfl (fun A hA => hA.2.1.tup)) hS (fun a' ha => ?_)
                simp only [Act.put, List.setIfInBounds_toArray, List.set_cons_succ, List.set_cons_zero] at ha
                subst ha
                refine MixH.take 9 4 _ (.bool false) rfl (by kernel_rfl) (by kernel_rfl) (by kernel_rfl) (by kernel_rfl) (yields_eql_tu (.tmp 117) (.tmp 119) rfl g2.x f.x rfl rfl false HE.out.1 rfl) hS (fun a' ha => ?_)
                simp only [Act.put, List.setIfInBounds_toArray, List.set_cons_succ, List.set_cons_zero] at ha
                subst ha
                refine MixH.takes [false, false, false, false, false, true] 8 (by kernel_rfl) (by kernel_rfl) (by decide) (by kernel_rfl) hS (fun K hK => ?_)
                simp only [Mix.pick]
                repeat (go_big_quiet_step (fail))
                refine wpQuiet_nil (hK _ ?_)
                clear hK K
                refine MixH.take 7 6 _ (.agg (cfC cc)) rfl (by kernel_rfl) (by kernel_rfl) (by kernel_rfl) (by kernel_rfl) (yields_cfg (.tmp 2) rfl B 0 cc rfl rfl (fun A hA => cfg_rng hA.2.2)) hS (fun a' ha => ?_)
                simp only [Act.put, List.setIfInBounds_toArray, List.set_cons_succ, List.set_cons_zero] at ha
                subst ha
                refine MixH.take 6 7 _ (.agg (flC g2)) rfl (by kernel_rfl) (by kernel_rfl) (by kernel_rfl) (by kernel_rfl) (yields_flo (.tmp 12) rfl OG 0 g2 rfl rfl (fun A hA => hA.1.all)) hS (fun a' ha => ?_)
                simp only [Act.put, List.setIfInBounds_toArray, List.set_cons_succ, List.set_cons_zero] at ha
                subst ha
                refine MixH.take 5 9 _ (.agg (cfC cc)) rfl (by kernel_rfl) (by kernel_rfl) (by kernel_rfl) (by kernel_rfl) (yields_cfg (.tmp 2) rfl B 0 cc rfl rfl (fun A hA => cfg_rng hA.2.2)) hS (fun a' ha => ?_)
                simp only [Act.put, List.setIfInBounds_toArray, List.set_cons_succ, List.set_cons_zero] at ha
                subst ha
                refine MixH.take 4 10 _ (.agg (flC f)) rfl (by kernel_rfl) (by kernel_rfl) (by kernel_rfl) (by kernel_rfl) (yields_flo (.tmp 10) rfl OF 0 f rfl rfl (fun A hA => hA.2.1.all)) hS (fun a' ha => ?_)
                simp only [Act.put, List.setIfInBounds_toArray, List.set_cons_succ, List.set_cons_zero] at ha
                subst ha
                refine MixH.one [false, false, false, false, false, false, false, false, true] 3 8 _ rfl rfl (by kernel_rfl) (by kernel_rfl) (fun K hK => ?_)
                simp only [Mix.pick]
                go_wp2_with fail
                refine Calls.mono (goesOut_any cc g2 wB) ?_
                rintro e11 w11 ⟨rfl, b11⟩
                replace hS : FloAt w11 OG g2 ∧ FloAt w11 OF f ∧ CfgAt w11 B cc := ⟨hS.1.below b11, hS.2.1.below b11, hS.2.2.below b11⟩
                have HB2 : Hid (Below w9.heap.size w9 w11) := HB1.out.trans (b11.mono HB1.out.size)
                clear b11 HB1
                go_wp2_with fail
                refine ⟨rfl, hK _ _ hS ?_⟩
                clear hK K
                refine MixH.one [false, false, false, false, false, false, false, false, false, false, false, true] 2 11 _ rfl rfl (by kernel_rfl) (by kernel_rfl) (fun K hK => ?_)
                simp only [Mix.pick]
                go_wp2_with fail
                refine Calls.mono (goesOut_any cc f w11) ?_
                rintro e12 w12 ⟨rfl, b12⟩
                replace hS : FloAt w12 OG g2 ∧ FloAt w12 OF f ∧ CfgAt w12 B cc := ⟨hS.1.below b12, hS.2.1.below b12, hS.2.2.below b12⟩
                have HB3 : Hid (Below w9.heap.size w9 w12) := HB2.out.trans (b12.mono HB2.out.size)
                clear b12 HB2
                go_wp2_with fail
                refine ⟨rfl, hK _ _ hS ?_⟩
                clear hK K
                refine MixH.take 1 12 _ (.bool false) rfl (by kernel_rfl) (by kernel_rfl) (by kernel_rfl) (by kernel_rfl) (yields_eql_tu (.tmp 124) (.tmp 127) rfl (goT cc g2) (goT cc f) rfl rfl false HE.out.2 rfl) hS (fun a' ha => ?_)
                simp only [Act.put, List.setIfInBounds_toArray, List.set_cons_succ, List.set_cons_zero] at ha
                subst ha
                refine MixH.takes [false, false, false, false, false, false, false, false, false, false, false, false, false, true] 0 (by kernel_rfl) (by kernel_rfl) (by decide) (by kernel_rfl) hS (fun K hK => ?_)
                simp only [Mix.pick]
                repeat (go_big_quiet_step (fail))
                refine wpQuiet_nil (hK _ ?_)
                clear hK K
                refine MixH.done (by kernel_rfl) ?_
                have HX : Hid (Below w9.heap.size w9 w12 ∧ FloAt w12 OG g2 ∧ FloAt w12 OF f) := ⟨HB3.out, hS.1, hS.2.1⟩
                clear hS HB3 HE
                obtain ⟨gsv, hgs⟩ : ∃ z, g2.x.sV = z := ⟨_, rfl⟩
                have g1 : w12.cell? ⟨OG, 1, none⟩ = some (.int .i64 gsv) := by have h1 := HX.out.2.1.cell 1; rw [← hgs]; exact h1
                have f1 : w12.cell? ⟨OF, 1, none⟩ = some (.int .i64 sv) := by have h1 := HX.out.2.2.cell 1; rw [← HSV.out.1]; exact h1
                have q4 : (sv == 4) = false := by rw [HV.out]; rfl
                clear hgs
                by_cases hg4 : gsv = 4
                · have p4 : (gsv == 4) = true := by simpa using hg4
                  clear hg4
                  go_wp2_with fail
                  go_roundw
                  case rel => exact ⟨j + 1, by first | rfl | go_num, by have := HJK.out; omega, HX.out.1⟩
                  case measure => have := HJK.out; simp [intOf]; omega
                · have p4 : (gsv == 4) = false := by simpa using hg4
                  clear hg4
                  go_wp2_with fail
                  go_roundw
                  case rel => exact ⟨j + 1, by first | rfl | go_num, by have := HJK.out; omega, HX.out.1⟩
                  case measure => have := HJK.out; simp [intOf]; omega
    · as_aux_lemma =>
        have HE : Hid (Below w.heap.size w wr) := HI.out.1.bel
        by_cases hlt : i < len
        · have h400 : ¬ i < 400 := fun h => hgo ⟨hlt, h⟩
          have p1 : decide ((i : Int) < (len : Int)) = true := decide_eq_true (by omega)
          have p2 : decide (i < len) = true := decide_eq_true hlt
          have p3 : decide ((i : Int) < 400) = false := decide_eq_false (by omega)
          have p4 : decide (i < 400) = false := decide_eq_false h400
          clear hgo hlt h400 hi
          go_wp2_with fail
          go_ret
          exact ⟨rfl, HE.out⟩
        · have p1 : decide ((i : Int) < (len : Int)) = false := decide_eq_false (by omega)
          have p2 : decide (i < len) = false := decide_eq_false hlt
          clear hgo hlt hi
          go_wp2_with fail
          go_ret
          exact ⟨rfl, HE.out⟩
end Go.Proofs.YtclpeepnngegaaaDoor
