/-
  FlowEnds: the walk.
-/
import Derived.Test.YtclpeepnngegaaaDoorF7Z
namespace Go.Proofs.YtclpeepnngegaaaDoor
open Go.RowKit Go.Maps

theorem cn_take {S : List FN} {k n : Nat} {f : FN} (h : S[k]? = some f) : cnN n (S.take (k + 1)) = cnN n (S.take k) + (if f.le == (n : Int) then 1 else 0) := by
  unfold cnN
  rw [List.take_add_one, h, List.filter_append, List.length_append]
  simp only [Option.toList_some, List.filter_cons, List.filter_nil]
  split <;> rfl
theorem lf_take {S : List FN} {k n : Nat} {f : FN} (h : S[k]? = some f) : (S.take (k + 1)).filterMap (lf n) = (S.take k).filterMap (lf n) ++ (lf n f).toList := by
  rw [List.take_add_one, h, List.filterMap_append]
  congr 1
theorem cn_le (n : Nat) (S : List FN) : cnN n S ≤ S.length := List.length_filter_le _ _
theorem st_lt {w : World} {ss : List SV} {a : Option Addr} {i : Nat} {g off : Nat} (h : ListG 41 stL SV.Wf w a ss) (hi : i < ss.length) (ha : a = some ⟨g, off, none⟩) : g < w.heap.size := by
  obtain ⟨_, g', off', ha', hlt, _⟩ := h.at i ss[i] (List.getElem?_eq_getElem hi)
  rw [ha] at ha'
  simp only [Option.some.injEq, Addr.mk.injEq, and_true] at ha'
  obtain ⟨rfl, _⟩ := ha'
  exact hlt
theorem rng_old {w A A' : World} {g o : Nat} {l : List Value} (h : Below w.heap.size w A) (h' : Below w.heap.size w A') (hg : g < w.heap.size) (r : A.rangeAt g o l) : A'.rangeAt g o l := fun j v hj => by
  rw [← r j v hj]
  exact World.cell?_of_block ((h'.block g hg).trans (h.block g hg).symm)
theorem fl_base {w : World} {base : Nat} {v : Value} {L : List FN} (h : FL w base v L) {q : Nat} (hq : v.ownBlock = some q) : base ≤ q := by
  rcases h.2 with ⟨rfl, _⟩ | ⟨g, cap, cur, rfl, hb, _⟩
  · simp [Value.ownBlock] at hq
  · simp only [Value.ownBlock, Option.some.injEq] at hq
    omega
theorem tb_tkn {t M N : Nat} {E : List FV} : ∀ (n : Nat) (q : Nat), TB t M N (tkn n E) q → TB t M N E q
  | 0, _, h => h
  | n + 1, q, h => by
    refine tb_tkn n q ?_
    rcases h with h | h | h | ⟨a, ha, h⟩
    · exact .inl h
    · exact .inr (.inl h)
    · exact .inr (.inr (.inl h))
    · obtain ⟨e, he, h1⟩ := List.mem_filterMap.1 ha
      exact .inr (.inr (.inr ⟨e, he, by rw [h, (tk1_x h1).2]⟩))
theorem fl_tick {W : World} {t M N : Nat} {c : CF} {E : List FV} {w w' : World} (_ : FT W t M N c E w) {base : Nat} {v : Value} {L : List FN} (h : FL w base v L) (k : Ch (TB t M N E) w w') (hf : ∀ q, TB t M N E q → ∀ g, v.ownBlock = some g → q ≠ g) : FL w' base v L := h.ch k (fun g hg hq => hf g hq g hg rfl)
set_option maxHeartbeats 12800000 in
set_option maxRecDepth 100000 in
theorem flowEnds.walk (w : World) (hT : Gl w) (c : CF) (hc : ∀ i, i < 16 → c.o i < 256) (b : Option Addr) (len bcap : Nat) (ss : List SV) (hl : ss.length = len) (hs : ListG 41 stL SV.Wf w b ss) (hn : len ≤ 1048576) : Calls Tryd.prog 7 #[.agg (cfC c), .slice b len bcap] w fun e w' => e = .returned (.bool true) ∧ Below w.heap.size w w' := by
  have HG : Hid (Gl w ∧ (∀ i, i < 16 → c.o i < 256)) := ⟨hT, hc⟩
  have HS : Hid (ListG 41 stL SV.Wf w b ss ∧ ss.length = len ∧ len ≤ 1048576) := ⟨hs, hl, hn⟩
  have hlen := hn
  clear hT hc hs hl hn
  have hb := cfg_new w c
  have bel : Below w.heap.size w (w.alloc (.cells (cfC c) 26)) := (Below.refl _ _).alloc (Nat.le_refl _) _
  obtain ⟨CX, hC⟩ : ∃ C, C = cfC c := ⟨_, rfl⟩
  obtain ⟨W, hW⟩ : ∃ W_, W_ = w.alloc (.cells (cfC c) 26) := ⟨_, rfl⟩
  rw [← hW] at hb bel
  have HSZX : Hid (W.heap.size = w.heap.size + 1) := by show _ = _; rw [hW, World.size_alloc]
  obtain ⟨B, hB⟩ : ∃ B, B = w.heap.size := ⟨_, rfl⟩
  rw [← hB] at hb
  have HBX : Hid (CfgAt W B c) := hb
  rw [← hC] at hW ⊢
  have HOX : Hid (w.heap.size = B) := hB.symm
  have HLX : Hid (Below w.heap.size w W) := bel
  have HWX : Hid (w.alloc (.cells CX 26) = W) := hW.symm
  clear hb hW hB hC bel
  go_enter Tryd.func7, Tryd.ntmps7
  have QT : Hid _ := table_any c W w HG.out.2 HG.out.1 HLX.out
  go_wp2_with (first | (rw [HOX.out, HWX.out]) | (refine wpList_load_cfg (.tmp 2) rfl B c rfl HBX.out rfl ?_))
  refine Calls.mono QT.out ?_
  rintro e1 w1 ⟨t, M, N, cc, rfl, f1, b1⟩
  have H1 : Hid (FT w t M N cc [] w1) := f1
  clear f1 b1 QT
  obtain ⟨Y6, hY⟩ : ∃ Y, Y = w1.alloc (.cells (cfC cz) 26) := ⟨_, rfl⟩
  have bY : Below w1.heap.size w1 Y6 := by rw [hY]; exact (Below.refl _ _).alloc (Nat.le_refl _) _
  obtain ⟨O6, hO⟩ : ∃ O, O = w1.heap.size := ⟨_, rfl⟩
  have HNV : Hid (CfgAt Y6 O6 cz) := by show CfgAt Y6 O6 cz; rw [hY, hO]; exact cfg_new w1 cz
  have HLV : Hid (Below w1.heap.size w1 Y6) := bY
  have HEV : Hid (w1.alloc (.cells (cfC cz) 26) = Y6) := hY.symm
  have HOV : Hid (w1.heap.size = O6) := hO.symm
  clear hY bY hO
  go_wp2_with (first | (refine wpList_alloc_cfg rfl rfl ?_; rw [HEV.out, HOV.out]) | (refine wpList_store_cfg (.tmp 6) (.tmp 19) rfl rfl O6 cz cc rfl rfl HNV.out rfl ?_))
  intro w2 h2 k2
  have H2 : Hid (FT w t M N cc [] w2) := (H1.out.below HLV.out).chO k2 (by have h1 := H1.out.bel.size; have h2 := HOV.out; omega) (fun q hq e => (H1.out.below HLV.out).ta.nb HNV.out (by decide) (by decide) (by subst e; exact hq))
  clear h2 k2 H1 HNV HLV HEV HOV
  have QB : Hid _ := begun_any w2 (H2.out.gl HG.out.1)
  go_wp2_with fail
  refine Calls.mono QB.out ?_
  rintro e3 w3 ⟨rfl, b3⟩
  have H3 : Hid (FT w t M N cc [] w3) := H2.out.below b3
  clear b3 QB H2
  obtain ⟨Y7, hY⟩ : ∃ Y, Y = w3.alloc (.cells (tuC xz) 34) := ⟨_, rfl⟩
  have bY : Below w3.heap.size w3 Y7 := by rw [hY]; exact (Below.refl _ _).alloc (Nat.le_refl _) _
  obtain ⟨O7, hO⟩ : ∃ O, O = w3.heap.size := ⟨_, rfl⟩
  have HNV : Hid (TupAt Y7 O7 xz) := by show TupAt Y7 O7 xz; rw [hY, hO]; exact tup_new w3 xz
  have HLV : Hid (Below w3.heap.size w3 Y7) := bY
  have HEV : Hid (w3.alloc (.cells (tuC xz) 34) = Y7) := hY.symm
  have HOV : Hid (w3.heap.size = O7) := hO.symm
  clear hY bY hO
  have H4 : Hid (FT w t M N cc [] Y7 ∧ TupAt Y7 O7 xz ∧ xz.Wf) := ⟨H3.out.below HLV.out, HNV.out, xz_wf⟩
  have HO7 : Hid (w.heap.size ≤ O7) := by have h1 := H3.out.bel.size; have h2 := HOV.out; show _ ≤ _; omega
  go_upto_region 5 with (first | (refine wpList_alloc_tup rfl rfl ?_; rw [HEV.out, HOV.out]))
  clear HNV HLV HEV HOV H3
  go_wp2_with fail
  go_loopw [8] (fun ix wr => ∃ (i : Nat) (E : List FV) (y : TU), ix = .int .i64 (i : Nat) ∧ i ≤ len ∧ Hid (FT w t M N cc E wr ∧ TupAt wr O7 y ∧ y.Wf)) (fun ix _ => len - (intOf ix).toNat)
  case atStart => exact ⟨0, [], xz, rfl, Nat.zero_le _, H4.out⟩
  case round =>
    clear H4
    obtain ⟨i, E, y, rfl, hi, HI⟩ := hrel
    by_cases hgo : i < len ∧ i < 400
    · as_aux_lemma =>
        obtain ⟨hlt, h400⟩ := hgo
        have p1 : decide ((i : Int) < (len : Int)) = true := decide_eq_true (by omega)
        have p2 : decide (i < len) = true := decide_eq_true hlt
        have p3 : decide ((i : Int) < 400) = true := decide_eq_true (by omega)
        have p4 : decide (i < 400) = true := decide_eq_true h400
        have k0 : (0 : Int) ≤ (i : Int) := by omega
        have k1 : (i : Int) < (len : Int) := by omega
        have k2 : ((i : Int)).toNat = i := by omega
        have wi : IntKind.i64.wrap ((i : Int) + 1) = (i : Int) + 1 := i64_k _ (by omega) (by omega)
        obtain ⟨s, hsw, g, off, rfl, hrg⟩ := st_at HS.out.1 HI.out.1.bel i (by rw [HS.out.2.1]; exact hlt)
        have HRG : Hid (wr.rangeAt g (off + i * 41) (stC s).toList ∧ s.Wf) := ⟨hrg, hsw⟩
        have HLT : Hid (i < len) := hlt
        clear hrg hsw hlt hi h400
        go_upto_region 8 with fail
        clear p1 p2 p3 p4
        refine MixH.start (fun A => A.rangeAt g (off + i * 41) (stC s).toList) (by kernel_rfl) ?_
        obtain ⟨wA, hwA⟩ : ∃ wA, wA = wr.drew := ⟨_, rfl⟩
        have bdr : Below wr.heap.size wr wA := by rw [hwA]; exact (Below.refl _ _).drew
        have HA : Hid (FT w t M N cc E wA ∧ TupAt wA O7 y ∧ y.Wf) := ⟨HI.out.1.below bdr, HI.out.2.1.below bdr, HI.out.2.2⟩
        have hS : wA.rangeAt g (off + i * 41) (stC s).toList := rng_drew hwA HRG.out.1
        have HGL : Hid (g < w.heap.size) := st_lt HS.out.1 (by rw [HS.out.2.1]; exact HLT.out) rfl
        rw [← hwA]
        clear hwA bdr
        have QR : Hid _ := runs_any t M N cc E w wA HA.out.1 HG.out.1 s HRG.out.2 y HA.out.2.2
        clear HI HRG
        refine MixH.takes [true, true, true, true] 7 (by kernel_rfl) (by kernel_rfl) (by decide) (by kernel_rfl) hS (fun K hK => ?_)
        simp only [Mix.pick]
        repeat (go_big_quiet_step (fail))
        refine wpQuiet_nil (hK _ ?_)
        clear hK K
        refine MixH.take 6 4 _ (.agg (stC s)) rfl (by kernel_rfl) (by kernel_rfl) (by kernel_rfl) (by kernel_rfl) (yields_stp (.tmp 40) rfl g (off + i * 41) s rfl rfl (fun A hA => hA)) hS (fun a' ha => ?_)
        simp only [Act.put, List.setIfInBounds_toArray, List.set_cons_succ, List.set_cons_zero] at ha
        subst ha
        refine MixH.one [false, false, false, false, false, true] 5 5 _ rfl rfl (by kernel_rfl) (by kernel_rfl) (fun K hK => ?_)
        simp only [Mix.pick]
        go_wp2_with (first | (refine wpList_load_tup (.tmp 7) rfl O7 y rfl HA.out.2.1 rfl ?_))
        refine ⟨rfl, hK _ _ hS ?_⟩
        clear hK K
        refine MixH.one [false, false, false, false, false, false, true] 4 6 _ rfl rfl (by kernel_rfl) (by kernel_rfl) (fun K hK => ?_)
        simp only [Mix.pick]
        go_wp2_with fail
        refine Calls.mono QR.out ?_
        rintro e5 w5 ⟨y5, b5, E5, rfl, _, _, hF, hy5, kt⟩
        have H5 : Hid (FT w t M N cc E5 w5 ∧ TupAt w5 O7 y ∧ y5.Wf) := ⟨hF, HA.out.2.1.kt kt, hy5⟩
        replace hS : w5.rangeAt g (off + i * 41) (stC s).toList := rng_old HA.out.1.bel H5.out.1.bel HGL.out hS
        clear hF hy5 kt QR HA
        go_wp2_with fail
        refine ⟨rfl, hK _ _ hS ?_⟩
        clear hK K
        refine MixH.takes [false, false, false, false, false, false, false, true, true, true] 1 (by kernel_rfl) (by kernel_rfl) (by decide) (by kernel_rfl) hS (fun K hK => ?_)
        simp only [Mix.pick]
        repeat (go_big_quiet_step (fail))
        refine wpQuiet_nil (hK _ ?_)
        clear hK K
        refine MixH.one [false, false, false, false, false, false, false, false, false, false, true] 0 10 _ rfl rfl (by kernel_rfl) (by kernel_rfl) (fun K hK => ?_)
        simp only [Mix.pick]
        refine wpList_store_tup (.tmp 7) (.tmp 44) rfl rfl O7 y y5 rfl rfl H5.out.2.1 rfl ?_
        intro w6 h6 k6
        have H6 : Hid (FT w t M N cc E5 w6 ∧ TupAt w6 O7 y5 ∧ y5.Wf) := ⟨H5.out.1.chO k6 HO7.out (fun q hq e => H5.out.1.ta.nb H5.out.2.1 (by decide) (by decide) (by subst e; exact hq)), h6, H5.out.2.2⟩
        replace hS : w6.rangeAt g (off + i * 41) (stC s).toList := rng_old H5.out.1.bel H6.out.1.bel HGL.out hS
        clear h6 k6
        go_wp2_with fail
        refine ⟨rfl, hK _ _ hS ?_⟩
        clear hK K
        refine MixH.done (by kernel_rfl) ?_
        clear hS
        go_wp2_with fail
        go_roundw
        case rel => exact ⟨i + 1, E5, y5, by first | rfl | go_num, by have := HLT.out; omega, H6.out⟩
        case measure => have := HLT.out; simp [intOf]; omega
    · as_aux_lemma =>
        by_cases hlt : i < len
        · have h400 : ¬ i < 400 := fun h => hgo ⟨hlt, h⟩
          have p1 : decide ((i : Int) < (len : Int)) = true := decide_eq_true (by omega)
          have p2 : decide (i < len) = true := decide_eq_true hlt
          have p3 : decide ((i : Int) < 400) = false := decide_eq_false (by omega)
          have p4 : decide (i < 400) = false := decide_eq_false h400
          clear hgo hlt h400 hi
          go_upto_region 9 with fail
          go_wp2_with fail
          refine Calls.mono (ask0_any wr) ?_
          rintro e5 w5 ⟨rfl, b5⟩
          have H5 : Hid (FT w t M N cc E w5) := HI.out.1.below b5
          have QO : Hid _ := H5.out.out HG.out.1 x0 x0_wf 0
          clear b5 HI
          go_wp2_with fail
          refine Calls.mono QO.out ?_
          rintro e6 w6 ⟨er, y6, E6, rfl, _, hF, _⟩
          have H6 : Hid (FT w t M N cc E6 w6) := hF
          have HTB : Hid (∀ q, TB t M N E6 q → q < w6.heap.size) := hF.ta.tlt
          have QD : Hid _ := H6.out.dump
          clear hF QO H5
          go_wp2_with fail
          refine Calls.mono QD.out ?_
          rintro e7 w7 ⟨vS, S, rfl, hD, hF, ⟨gS, cS, rfl⟩, b7⟩
          obtain ⟨nS, hnS⟩ : ∃ n, S.length = n := ⟨_, rfl⟩
          rw [hnS] at hF
          have HD : Hid (DumpR E6 S ∧ S.length = nS ∧ Dj E6 ∧ (∀ e ∈ E6, e.n.x.Wf) ∧ (∀ e ∈ E6, LeOk e)) := ⟨hD, hnS, H6.out.ta.dj, H6.out.ta.wf, H6.out.le⟩
          have hn4 : nS ≤ 4096 := by have h1 := hD.1.length_eq; rw [List.length_map] at h1; have h2 := H6.out.len; omega
          have H7 : Hid (FT w t M N cc E6 w7 ∧ FL w7 w6.heap.size (.slice (some ⟨gS, 0, none⟩) nS cS) S) := ⟨H6.out.below b7, hF⟩
          rw [hnS]
          clear hD hF b7 QD H6 hnS
          go_upto_region 11 with fail
          go_wp2_with fail
          go_loopw [10] (fun nx wr => ∃ p : Nat, nx = .int .i64 (p : Nat) ∧ 1 ≤ p ∧ p ≤ 61 ∧ Hid (FT w t M N cc (tkn (p - 1) E6) wr ∧ FL wr w6.heap.size (.slice (some ⟨gS, 0, none⟩) nS cS) S)) (fun nx _ => 61 - (intOf nx).toNat)
          case atStart => exact ⟨1, rfl, by omega, by omega, H7.out⟩
          case round =>
            clear H7
            obtain ⟨p, rfl, hp1, hp2, HN⟩ := hrel
            by_cases hp60 : p ≤ 60
            case neg =>
              have q1 : decide ((p : Int) ≤ 60) = false := decide_eq_false (by omega)
              have q2 : decide (p ≤ 60) = false := decide_eq_false hp60
              clear hp60 hp1 hp2
              go_wp2_with fail
              go_ret
              exact ⟨rfl, HN.out.1.bel⟩
            have q1 : decide ((p : Int) ≤ 60) = true := decide_eq_true (by omega)
            have q2 : decide (p ≤ 60) = true := decide_eq_true hp60
            have wp1 : IntKind.i64.wrap ((p : Int) + 1) = (p : Int) + 1 := i64_k _ (by omega) (by omega)
            obtain ⟨Ep, hEp⟩ : ∃ X, X = tkn (p - 1) E6 := ⟨_, rfl⟩
            rw [← hEp] at HN
            have HP : Hid (1 ≤ p ∧ p ≤ 60 ∧ Ep = tkn (p - 1) E6) := ⟨hp1, hp60, hEp⟩
            clear hp1 hp2 hp60 hEp
            obtain ⟨wN, hwN⟩ : ∃ W_, W_ = wr := ⟨_, rfl⟩
            have HWN : Hid (FT w t M N cc Ep wN ∧ FL wN w6.heap.size (.slice (some ⟨gS, 0, none⟩) nS cS) S) := by rw [hwN]; exact HN.out
            have HBN : Hid (Below wN.heap.size wN wr) := by rw [hwN]; exact Below.refl _ _
            clear hwN HN
            go_wp2_with fail
            go_loopw [11, 12, 13] (fun ex lx kx wr => ∃ (k : Nat) (en : Nat) (L : List FN), ex = .int .i64 (en : Nat) ∧ kx = .int .i64 (k : Nat) ∧ k ≤ nS ∧ Hid (Below wN.heap.size wN wr ∧ FL wr wN.heap.size lx L ∧ en = cnN p (S.take k) ∧ L = (S.take k).filterMap (lf p))) (fun _ _ kx _ => nS - (intOf kx).toNat)
            case atStart => exact ⟨0, 0, [], rfl, rfl, Nat.zero_le _, HBN.out, FL.nil _ _, rfl, rfl⟩
            case round =>
              clear HBN
              obtain ⟨k, en, L, rfl, rfl, hk, HK⟩ := hrel
              obtain ⟨lv, hlv⟩ : ∃ v, v = u12 := ⟨_, rfl⟩
              rw [← hlv] at HK ⊢
              clear hlv
              by_cases hkn : k < nS
              · as_aux_lemma =>
                  have a1 : decide ((k : Int) < (nS : Int)) = true := decide_eq_true (by omega)
                  have a2 : decide (k < nS) = true := decide_eq_true hkn
                  have k0 : (0 : Int) ≤ (k : Int) := by omega
                  have k1 : (k : Int) < (nS : Int) := by omega
                  have k2 : ((k : Int)).toNat = k := by omega
                  have wk : IntKind.i64.wrap ((k : Int) + 1) = (k : Int) + 1 := i64_k _ (by omega) (by omega)
                  obtain ⟨f, hf⟩ : ∃ f, S[k]? = some f := ⟨_, List.getElem?_eq_getElem (by rw [HD.out.2.1]; exact hkn)⟩
                  have hfl : 1 ≤ f.le ∧ f.le ≤ 1048576 := by
                    obtain ⟨e, he, rfl⟩ := List.mem_map.1 (HD.out.1.1.mem_iff.1 (List.mem_of_getElem? hf))
                    have := HD.out.2.2.2.2 e he
                    exact ⟨this.lo, this.hi⟩
                  have hfr : wr.rangeAt gS (k * 40) (flC f).toList := by
                    obtain ⟨g1, d1, e1, _, _, r1⟩ := (HWN.out.2.below HK.out.1).at k f hf
                    simp only [Value.slice.injEq, Option.some.injEq, Addr.mk.injEq, and_true] at e1
                    obtain ⟨rfl, _⟩ := e1
                    exact r1
                  have HF : Hid (S[k]? = some f ∧ wr.rangeAt gS (k * 40) (flC f).toList ∧ (1 ≤ f.le ∧ f.le ≤ 1048576)) := ⟨hf, hfr, hfl⟩
                  have HKN : Hid (k < nS ∧ nS ≤ 4096) := ⟨hkn, hn4⟩
                  have c39 : wr.cell? ⟨gS, k * 40 + 39, none⟩ = some (.int .i64 f.le) := hfr 39 _ rfl
                  have hen : en ≤ k := by rw [HK.out.2.2.1]; exact Nat.le_trans (cn_le _ _) (by rw [List.length_take]; exact Nat.min_le_left _ _)
                  have wen : IntKind.i64.wrap ((en : Int) + 1) = (en : Int) + 1 := i64_k _ (by omega) (by omega)
                  obtain ⟨fle, hfle⟩ : ∃ z, f.le = z := ⟨_, rfl⟩
                  rw [hfle] at c39 hfl
                  have HFL : Hid (f.le = fle) := hfle
                  clear hf hfr hfle hkn hk hen
                  by_cases h1 : fle = (p : Int)
                  · have t1 : (fle == (p : Int)) = true := by simpa using h1
                    have t2 : decide ((p : Int) < fle) = false := decide_eq_false (by omega)
                    have HN2 : Hid (Below wN.heap.size wN wr ∧ FL wr wN.heap.size lv L ∧ en + 1 = cnN p (S.take (k + 1)) ∧ L = (S.take (k + 1)).filterMap (lf p)) := by
                      refine ⟨HK.out.1, HK.out.2.1, ?_, ?_⟩
                      · rw [cn_take HF.out.1, ← HK.out.2.2.1, HFL.out, t1]; rfl
                      · rw [lf_take HF.out.1, ← HK.out.2.2.2]
                        unfold lf
                        rw [HFL.out, if_neg (by omega)]
                        simp
                    clear h1 hfl
                    go_wp2_with fail
                    go_roundw
                    case rel => exact ⟨k + 1, en + 1, L, by first | rfl | go_num, by first | rfl | go_num, by have := HKN.out; omega, HN2.out⟩
                    case measure => have := HKN.out; simp [intOf]; omega
                  · have t1 : (fle == (p : Int)) = false := by simpa using h1
                    by_cases h2 : (p : Int) < fle
                    · have t2 : decide ((p : Int) < fle) = true := decide_eq_true h2
                      have wl : IntKind.i64.wrap (fle - (p : Int)) = fle - (p : Int) := i64_k _ (by have := HP.out; omega) (by omega)
                      have hL4 : L.length ≤ 4096 := by
                        rw [HK.out.2.2.2]
                        have e1 := List.length_filterMap_le (lf p) (S.take k)
                        have e2 : (S.take k).length ≤ k := by rw [List.length_take]; exact Nat.min_le_left _ _
                        have := HKN.out
                        omega
                      have HLF : Hid (lf p f = some { f with le := fle - (p : Int) } ∧ L.length ≤ 4096) := by
                        refine ⟨?_, hL4⟩
                        unfold lf
                        rw [HFL.out, if_pos h2]
                      clear h1 h2 hfl hL4
                      obtain ⟨wB, hwB⟩ : ∃ W_, W_ = wr.alloc (.cells (flC fz0) 55) := ⟨_, rfl⟩
                      have bB : Below wr.heap.size wr wB := by rw [hwB]; exact (Below.refl _ _).alloc (Nat.le_refl _) _
                      obtain ⟨OF, hOF⟩ : ∃ O, O = wr.heap.size := ⟨_, rfl⟩
                      have HNF : Hid (FloAt wB OF fz0) := by show FloAt wB OF fz0; rw [hwB, hOF]; exact flo_new wr fz0
                      have HEF : Hid (wr.alloc (.cells (flC fz0) 55) = wB) := hwB.symm
                      have HOF : Hid (wr.heap.size = OF) := hOF.symm
                      have HB1 : Hid (Below wr.heap.size wr wB) := bB
                      clear hwB hOF bB
                      go_upto_region 23 with (first | (refine wpList_mid_flo (.tmp 79) rfl gS (k * 40) f rfl HF.out.2.1 rfl ?_) | (refine wpList_alloc_flo rfl rfl ?_; rw [HEF.out, HOF.out]) | (refine wpList_store_flo (.tmp 14) (.tmp 80) rfl rfl OF fz0 f rfl rfl HNF.out rfl ?_; intro w8 h8 k8))
                      have H8 : Hid (FloAt w8 OF f ∧ Below wr.heap.size wr w8) := ⟨h8, HB1.out.trans (k8.below (fun q hq => by have hq' : q = OF := hq; have := HOF.out; omega) HB1.out.size)⟩
                      have d39 : w8.cell? ⟨OF, 39, none⟩ = some (.int .i64 fle) := by have h1 := h8.c39; rw [HFL.out] at h1; exact h1
                      have z39 := h8.fz 39
                      clear h8 k8 c39
                      go_upto_region 24 with fail
                      obtain ⟨w9, hw9⟩ : ∃ y, w8.setCell ⟨OF, 39, none⟩ (.int .i64 (fle - (p : Int))) = y := ⟨_, rfl⟩
                      obtain ⟨f', hf'⟩ : ∃ f', f' = { f with le := fle - (p : Int) } := ⟨_, rfl⟩
                      have H9 : Hid (FloAt w9 OF f' ∧ Below wr.heap.size wr w9 ∧ lf p f = some f' ∧ L.length ≤ 4096) := by
                        have h1 := FloAt.set H8.out.1 39 (.int .i64 (fle - (p : Int))) (set_le _ _)
                        have k4 := (Ch.refl (fun q => q = OF) w8).set ⟨OF, 39, none⟩ (.int .i64 (fle - (p : Int))) rfl
                        rw [hw9] at h1 k4
                        refine ⟨by rw [hf']; exact h1, H8.out.2.trans (k4.below (fun q hq => by have hq' : q = OF := hq; have := HOF.out; omega) H8.out.2.size), by rw [HLF.out.1, hf'], HLF.out.2⟩
                      rw [hw9]
                      clear hw9 hf' d39 z39 H8 HLF
                      obtain ⟨wC, hwC⟩ : ∃ W_, W_ = w9.alloc (.cells (flC f') 55) := ⟨_, rfl⟩
                      have bC : Below w9.heap.size w9 wC := by rw [hwC]; exact (Below.refl _ _).alloc (Nat.le_refl _) _
                      obtain ⟨OG, hOG⟩ : ∃ O, O = w9.heap.size := ⟨_, rfl⟩
                      have HNG : Hid (FloAt wC OG f') := by show FloAt wC OG f'; rw [hwC, hOG]; exact flo_new w9 f'
                      have HEG : Hid (w9.alloc (.cells (flC f') 55) = wC) := hwC.symm
                      have HOG : Hid (w9.heap.size = OG) := hOG.symm
                      have HBC : Hid (Below wN.heap.size wN wC ∧ FL wC wN.heap.size lv L) := by
                        have b1 := H9.out.2.1.trans (bC.mono H9.out.2.1.size)
                        exact ⟨HK.out.1.trans (b1.mono HK.out.1.size), HK.out.2.1.below b1⟩
                      clear hwC hOG bC
                      go_wp2_with (first | (refine wpList_load_flo (.tmp 14) rfl OF f' rfl H9.out.1 rfl ?_) | (refine wpList_bs1f (.tmp 87) rfl f' rfl rfl ?_; rw [HEG.out, HOG.out]) | (at_builtin; refine wpList_app1f rfl (.tmp 86) (.tmp 88) rfl wN.heap.size lv L rfl HBC.out.2 OG f' rfl HNG.out (by have := H9.out.2.2.2; omega) HBC.out.1.size ?_))
                      intro v2 w10 gl gb _
                      have HN2 : Hid (Below wN.heap.size wN w10 ∧ FL w10 wN.heap.size v2 (L ++ [f']) ∧ en = cnN p (S.take (k + 1)) ∧ L ++ [f'] = (S.take (k + 1)).filterMap (lf p)) := by
                        refine ⟨HBC.out.1.trans ((Ch.ofGrown gb).below (fun q hq => fl_base HBC.out.2 hq) HBC.out.1.size), gl, ?_, ?_⟩
                        · rw [cn_take HF.out.1, ← HK.out.2.2.1, HFL.out, t1]; rfl
                        · rw [lf_take HF.out.1, ← HK.out.2.2.2, H9.out.2.2.1]; rfl
                      clear gl gb
                      go_wp2_with fail
                      go_roundw
                      case rel => exact ⟨k + 1, en, (L ++ [f']), by first | rfl | go_num, by first | rfl | go_num, by have := HKN.out; omega, HN2.out⟩
                      case measure => have := HKN.out; simp [intOf]; omega
                    · have t2 : decide ((p : Int) < fle) = false := decide_eq_false h2
                      have HN2 : Hid (Below wN.heap.size wN wr ∧ FL wr wN.heap.size lv L ∧ en = cnN p (S.take (k + 1)) ∧ L = (S.take (k + 1)).filterMap (lf p)) := by
                        refine ⟨HK.out.1, HK.out.2.1, ?_, ?_⟩
                        · rw [cn_take HF.out.1, ← HK.out.2.2.1, HFL.out, t1]; rfl
                        · rw [lf_take HF.out.1, ← HK.out.2.2.2]
                          unfold lf
                          rw [HFL.out, if_neg h2]
                          simp
                      clear h1 h2 hfl
                      go_wp2_with fail
                      go_roundw
                      case rel => exact ⟨k + 1, en, L, by first | rfl | go_num, by first | rfl | go_num, by have := HKN.out; omega, HN2.out⟩
                      case measure => have := HKN.out; simp [intOf]; omega
              · as_aux_lemma =>
                  have a1 : decide ((k : Int) < (nS : Int)) = false := decide_eq_false (by omega)
                  have a2 : decide (k < nS) = false := decide_eq_false hkn
                  have HKE : Hid (en = cnN p S ∧ L = S.filterMap (lf p) ∧ en = endN Ep) := by
                    have e1 : S.take k = S := List.take_of_length_le (by rw [HD.out.2.1]; omega)
                    have h1 := HK.out.2.2
                    rw [e1] at h1
                    refine ⟨h1.1, h1.2, ?_⟩
                    rw [HP.out.2.2, endN_tkn HD.out.2.2.2.2 HD.out.1.1, h1.1, show p - 1 + 1 = p by have := HP.out.1; omega]
                  have H8 : Hid (FT w t M N cc Ep wr ∧ FL wr w6.heap.size (.slice (some ⟨gS, 0, none⟩) nS cS) S ∧ FL wr wN.heap.size lv L) := ⟨HWN.out.1.below HK.out.1, HWN.out.2.below HK.out.1, HK.out.2.1⟩
                  have QK : Hid _ := H8.out.1.tick
                  rw [← HKE.out.2.2] at QK
                  have tq : ((en : Int) != (en : Int)) = false := by simp
                  clear hkn hk HK
                  go_wp2_with fail
                  refine Calls.mono QK.out ?_
                  rintro e9 w9 ⟨rfl, hF, k9⟩
                  have H9 : Hid (FT w t M N cc (tkn p E6) w9 ∧ FL w9 w6.heap.size (.slice (some ⟨gS, 0, none⟩) nS cS) S ∧ FL w9 wN.heap.size lv L) := by
                    have e1 : Ep.filterMap tk1 = tkn p E6 := by
                      rw [HP.out.2.2]
                      have e2 : p = (p - 1) + 1 := by have := HP.out.1; omega
                      conv => rhs; rw [e2]
                      rfl
                    rw [e1] at hF
                    exact ⟨hF, fl_tick H8.out.1 H8.out.2.1 k9 (fun q hq g hg e => by have h1 := HTB.out q (tb_tkn _ q (by rw [← HP.out.2.2]; exact hq)); have h2 := fl_base H8.out.2.1 hg; omega), fl_tick H8.out.1 H8.out.2.2 k9 (fun q hq g hg e => by have h1 := HWN.out.1.ta.tlt q hq; have h2 := fl_base H8.out.2.2 hg; omega)⟩
                  have QD : Hid _ := H9.out.1.dump
                  clear hF k9 QK H8
                  go_wp2_with fail
                  refine Calls.mono QD.out ?_
                  rintro e10 w10 ⟨v10, T, rfl, hD, hF, _, b10⟩
                  have HTS : Hid (T = L) := by
                    show T = L
                    rw [HKE.out.2.1]
                    exact dump_tkn HD.out.2.2.1 HD.out.2.2.2.1 HD.out.2.2.2.2 HD.out.1 p hD
                  rw [HTS.out] at hF
                  have H10 : Hid (FT w t M N cc (tkn p E6) w10 ∧ FL w10 w6.heap.size (.slice (some ⟨gS, 0, none⟩) nS cS) S ∧ FL w10 wN.heap.size lv L ∧ FL w10 w9.heap.size v10 L) := ⟨H9.out.1.below b10, H9.out.2.1.below b10, H9.out.2.2.below b10, hF⟩
                  have hL4 : L.length ≤ 4096 := by
                    rw [HKE.out.2.1]
                    have e1 := List.length_filterMap_le (lf p) S
                    have := HD.out.2.1
                    omega
                  have QS : Hid _ := sameFlows_any w9.heap.size wN.heap.size v10 lv L w10 H10.out.2.2.2 H10.out.2.2.1 hL4
                  clear hD hF b10 QD H9 hL4
                  go_wp2_with fail
                  refine Calls.mono QS.out ?_
                  rintro e11 w11 ⟨rfl, b11⟩
                  have H11 : Hid (FT w t M N cc (tkn (p + 1 - 1) E6) w11 ∧ FL w11 w6.heap.size (.slice (some ⟨gS, 0, none⟩) nS cS) S) := ⟨H10.out.1.below b11, H10.out.2.1.below b11⟩
                  clear b11 QS H10
                  go_wp2_with fail
                  go_roundw
                  case rel => exact ⟨p + 1, by first | rfl | go_num, by omega, by have := HP.out; omega, H11.out⟩
                  case measure => have := HP.out; simp [intOf]; omega
        · have p1 : decide ((i : Int) < (len : Int)) = false := decide_eq_false (by omega)
          have p2 : decide (i < len) = false := decide_eq_false hlt
          clear hgo hlt hi
          go_upto_region 9 with fail
          go_wp2_with fail
          refine Calls.mono (ask0_any wr) ?_
          rintro e5 w5 ⟨rfl, b5⟩
          have H5 : Hid (FT w t M N cc E w5) := HI.out.1.below b5
          have QO : Hid _ := H5.out.out HG.out.1 x0 x0_wf 0
          clear b5 HI
          go_wp2_with fail
          refine Calls.mono QO.out ?_
          rintro e6 w6 ⟨er, y6, E6, rfl, _, hF, _⟩
          have H6 : Hid (FT w t M N cc E6 w6) := hF
          have HTB : Hid (∀ q, TB t M N E6 q → q < w6.heap.size) := hF.ta.tlt
          have QD : Hid _ := H6.out.dump
          clear hF QO H5
          go_wp2_with fail
          refine Calls.mono QD.out ?_
          rintro e7 w7 ⟨vS, S, rfl, hD, hF, ⟨gS, cS, rfl⟩, b7⟩
          obtain ⟨nS, hnS⟩ : ∃ n, S.length = n := ⟨_, rfl⟩
          rw [hnS] at hF
          have HD : Hid (DumpR E6 S ∧ S.length = nS ∧ Dj E6 ∧ (∀ e ∈ E6, e.n.x.Wf) ∧ (∀ e ∈ E6, LeOk e)) := ⟨hD, hnS, H6.out.ta.dj, H6.out.ta.wf, H6.out.le⟩
          have hn4 : nS ≤ 4096 := by have h1 := hD.1.length_eq; rw [List.length_map] at h1; have h2 := H6.out.len; omega
          have H7 : Hid (FT w t M N cc E6 w7 ∧ FL w7 w6.heap.size (.slice (some ⟨gS, 0, none⟩) nS cS) S) := ⟨H6.out.below b7, hF⟩
          rw [hnS]
          clear hD hF b7 QD H6 hnS
          go_upto_region 11 with fail
          go_wp2_with fail
          go_loopw [10] (fun nx wr => ∃ p : Nat, nx = .int .i64 (p : Nat) ∧ 1 ≤ p ∧ p ≤ 61 ∧ Hid (FT w t M N cc (tkn (p - 1) E6) wr ∧ FL wr w6.heap.size (.slice (some ⟨gS, 0, none⟩) nS cS) S)) (fun nx _ => 61 - (intOf nx).toNat)
          case atStart => exact ⟨1, rfl, by omega, by omega, H7.out⟩
          case round =>
            clear H7
            obtain ⟨p, rfl, hp1, hp2, HN⟩ := hrel
            by_cases hp60 : p ≤ 60
            case neg =>
              have q1 : decide ((p : Int) ≤ 60) = false := decide_eq_false (by omega)
              have q2 : decide (p ≤ 60) = false := decide_eq_false hp60
              clear hp60 hp1 hp2
              go_wp2_with fail
              go_ret
              exact ⟨rfl, HN.out.1.bel⟩
            have q1 : decide ((p : Int) ≤ 60) = true := decide_eq_true (by omega)
            have q2 : decide (p ≤ 60) = true := decide_eq_true hp60
            have wp1 : IntKind.i64.wrap ((p : Int) + 1) = (p : Int) + 1 := i64_k _ (by omega) (by omega)
            obtain ⟨Ep, hEp⟩ : ∃ X, X = tkn (p - 1) E6 := ⟨_, rfl⟩
            rw [← hEp] at HN
            have HP : Hid (1 ≤ p ∧ p ≤ 60 ∧ Ep = tkn (p - 1) E6) := ⟨hp1, hp60, hEp⟩
            clear hp1 hp2 hp60 hEp
            obtain ⟨wN, hwN⟩ : ∃ W_, W_ = wr := ⟨_, rfl⟩
            have HWN : Hid (FT w t M N cc Ep wN ∧ FL wN w6.heap.size (.slice (some ⟨gS, 0, none⟩) nS cS) S) := by rw [hwN]; exact HN.out
            have HBN : Hid (Below wN.heap.size wN wr) := by rw [hwN]; exact Below.refl _ _
            clear hwN HN
            go_wp2_with fail
            go_loopw [11, 12, 13] (fun ex lx kx wr => ∃ (k : Nat) (en : Nat) (L : List FN), ex = .int .i64 (en : Nat) ∧ kx = .int .i64 (k : Nat) ∧ k ≤ nS ∧ Hid (Below wN.heap.size wN wr ∧ FL wr wN.heap.size lx L ∧ en = cnN p (S.take k) ∧ L = (S.take k).filterMap (lf p))) (fun _ _ kx _ => nS - (intOf kx).toNat)
            case atStart => exact ⟨0, 0, [], rfl, rfl, Nat.zero_le _, HBN.out, FL.nil _ _, rfl, rfl⟩
            case round =>
              clear HBN
              obtain ⟨k, en, L, rfl, rfl, hk, HK⟩ := hrel
              obtain ⟨lv, hlv⟩ : ∃ v, v = u12 := ⟨_, rfl⟩
              rw [← hlv] at HK ⊢
              clear hlv
              by_cases hkn : k < nS
              · as_aux_lemma =>
                  have a1 : decide ((k : Int) < (nS : Int)) = true := decide_eq_true (by omega)
                  have a2 : decide (k < nS) = true := decide_eq_true hkn
                  have k0 : (0 : Int) ≤ (k : Int) := by omega
                  have k1 : (k : Int) < (nS : Int) := by omega
                  have k2 : ((k : Int)).toNat = k := by omega
                  have wk : IntKind.i64.wrap ((k : Int) + 1) = (k : Int) + 1 := i64_k _ (by omega) (by omega)
                  obtain ⟨f, hf⟩ : ∃ f, S[k]? = some f := ⟨_, List.getElem?_eq_getElem (by rw [HD.out.2.1]; exact hkn)⟩
                  have hfl : 1 ≤ f.le ∧ f.le ≤ 1048576 := by
                    obtain ⟨e, he, rfl⟩ := List.mem_map.1 (HD.out.1.1.mem_iff.1 (List.mem_of_getElem? hf))
                    have := HD.out.2.2.2.2 e he
                    exact ⟨this.lo, this.hi⟩
                  have hfr : wr.rangeAt gS (k * 40) (flC f).toList := by
                    obtain ⟨g1, d1, e1, _, _, r1⟩ := (HWN.out.2.below HK.out.1).at k f hf
                    simp only [Value.slice.injEq, Option.some.injEq, Addr.mk.injEq, and_true] at e1
                    obtain ⟨rfl, _⟩ := e1
                    exact r1
                  have HF : Hid (S[k]? = some f ∧ wr.rangeAt gS (k * 40) (flC f).toList ∧ (1 ≤ f.le ∧ f.le ≤ 1048576)) := ⟨hf, hfr, hfl⟩
                  have HKN : Hid (k < nS ∧ nS ≤ 4096) := ⟨hkn, hn4⟩
                  have c39 : wr.cell? ⟨gS, k * 40 + 39, none⟩ = some (.int .i64 f.le) := hfr 39 _ rfl
                  have hen : en ≤ k := by rw [HK.out.2.2.1]; exact Nat.le_trans (cn_le _ _) (by rw [List.length_take]; exact Nat.min_le_left _ _)
                  have wen : IntKind.i64.wrap ((en : Int) + 1) = (en : Int) + 1 := i64_k _ (by omega) (by omega)
                  obtain ⟨fle, hfle⟩ : ∃ z, f.le = z := ⟨_, rfl⟩
                  rw [hfle] at c39 hfl
                  have HFL : Hid (f.le = fle) := hfle
                  clear hf hfr hfle hkn hk hen
                  by_cases h1 : fle = (p : Int)
                  · have t1 : (fle == (p : Int)) = true := by simpa using h1
                    have t2 : decide ((p : Int) < fle) = false := decide_eq_false (by omega)
                    have HN2 : Hid (Below wN.heap.size wN wr ∧ FL wr wN.heap.size lv L ∧ en + 1 = cnN p (S.take (k + 1)) ∧ L = (S.take (k + 1)).filterMap (lf p)) := by
                      refine ⟨HK.out.1, HK.out.2.1, ?_, ?_⟩
                      · rw [cn_take HF.out.1, ← HK.out.2.2.1, HFL.out, t1]; rfl
                      · rw [lf_take HF.out.1, ← HK.out.2.2.2]
                        unfold lf
                        rw [HFL.out, if_neg (by omega)]
                        simp
                    clear h1 hfl
                    go_wp2_with fail
                    go_roundw
                    case rel => exact ⟨k + 1, en + 1, L, by first | rfl | go_num, by first | rfl | go_num, by have := HKN.out; omega, HN2.out⟩
                    case measure => have := HKN.out; simp [intOf]; omega
                  · have t1 : (fle == (p : Int)) = false := by simpa using h1
                    by_cases h2 : (p : Int) < fle
                    · have t2 : decide ((p : Int) < fle) = true := decide_eq_true h2
                      have wl : IntKind.i64.wrap (fle - (p : Int)) = fle - (p : Int) := i64_k _ (by have := HP.out; omega) (by omega)
                      have hL4 : L.length ≤ 4096 := by
                        rw [HK.out.2.2.2]
                        have e1 := List.length_filterMap_le (lf p) (S.take k)
                        have e2 : (S.take k).length ≤ k := by rw [List.length_take]; exact Nat.min_le_left _ _
                        have := HKN.out
                        omega
                      have HLF : Hid (lf p f = some { f with le := fle - (p : Int) } ∧ L.length ≤ 4096) := by
                        refine ⟨?_, hL4⟩
                        unfold lf
                        rw [HFL.out, if_pos h2]
                      clear h1 h2 hfl hL4
                      obtain ⟨wB, hwB⟩ : ∃ W_, W_ = wr.alloc (.cells (flC fz0) 55) := ⟨_, rfl⟩
                      have bB : Below wr.heap.size wr wB := by rw [hwB]; exact (Below.refl _ _).alloc (Nat.le_refl _) _
                      obtain ⟨OF, hOF⟩ : ∃ O, O = wr.heap.size := ⟨_, rfl⟩
                      have HNF : Hid (FloAt wB OF fz0) := by show FloAt wB OF fz0; rw [hwB, hOF]; exact flo_new wr fz0
                      have HEF : Hid (wr.alloc (.cells (flC fz0) 55) = wB) := hwB.symm
                      have HOF : Hid (wr.heap.size = OF) := hOF.symm
                      have HB1 : Hid (Below wr.heap.size wr wB) := bB
                      clear hwB hOF bB
                      go_upto_region 23 with (first | (refine wpList_mid_flo (.tmp 79) rfl gS (k * 40) f rfl HF.out.2.1 rfl ?_) | (refine wpList_alloc_flo rfl rfl ?_; rw [HEF.out, HOF.out]) | (refine wpList_store_flo (.tmp 14) (.tmp 80) rfl rfl OF fz0 f rfl rfl HNF.out rfl ?_; intro w8 h8 k8))
                      have H8 : Hid (FloAt w8 OF f ∧ Below wr.heap.size wr w8) := ⟨h8, HB1.out.trans (k8.below (fun q hq => by have hq' : q = OF := hq; have := HOF.out; omega) HB1.out.size)⟩
                      have d39 : w8.cell? ⟨OF, 39, none⟩ = some (.int .i64 fle) := by have h1 := h8.c39; rw [HFL.out] at h1; exact h1
                      have z39 := h8.fz 39
                      clear h8 k8 c39
                      go_upto_region 24 with fail
                      obtain ⟨w9, hw9⟩ : ∃ y, w8.setCell ⟨OF, 39, none⟩ (.int .i64 (fle - (p : Int))) = y := ⟨_, rfl⟩
                      obtain ⟨f', hf'⟩ : ∃ f', f' = { f with le := fle - (p : Int) } := ⟨_, rfl⟩
                      have H9 : Hid (FloAt w9 OF f' ∧ Below wr.heap.size wr w9 ∧ lf p f = some f' ∧ L.length ≤ 4096) := by
                        have h1 := FloAt.set H8.out.1 39 (.int .i64 (fle - (p : Int))) (set_le _ _)
                        have k4 := (Ch.refl (fun q => q = OF) w8).set ⟨OF, 39, none⟩ (.int .i64 (fle - (p : Int))) rfl
                        rw [hw9] at h1 k4
                        refine ⟨by rw [hf']; exact h1, H8.out.2.trans (k4.below (fun q hq => by have hq' : q = OF := hq; have := HOF.out; omega) H8.out.2.size), by rw [HLF.out.1, hf'], HLF.out.2⟩
                      rw [hw9]
                      clear hw9 hf' d39 z39 H8 HLF
                      obtain ⟨wC, hwC⟩ : ∃ W_, W_ = w9.alloc (.cells (flC f') 55) := ⟨_, rfl⟩
                      have bC : Below w9.heap.size w9 wC := by rw [hwC]; exact (Below.refl _ _).alloc (Nat.le_refl _) _
                      obtain ⟨OG, hOG⟩ : ∃ O, O = w9.heap.size := ⟨_, rfl⟩
                      have HNG : Hid (FloAt wC OG f') := by show FloAt wC OG f'; rw [hwC, hOG]; exact flo_new w9 f'
                      have HEG : Hid (w9.alloc (.cells (flC f') 55) = wC) := hwC.symm
                      have HOG : Hid (w9.heap.size = OG) := hOG.symm
                      have HBC : Hid (Below wN.heap.size wN wC ∧ FL wC wN.heap.size lv L) := by
                        have b1 := H9.out.2.1.trans (bC.mono H9.out.2.1.size)
                        exact ⟨HK.out.1.trans (b1.mono HK.out.1.size), HK.out.2.1.below b1⟩
                      clear hwC hOG bC
                      go_wp2_with (first | (refine wpList_load_flo (.tmp 14) rfl OF f' rfl H9.out.1 rfl ?_) | (refine wpList_bs1f (.tmp 87) rfl f' rfl rfl ?_; rw [HEG.out, HOG.out]) | (at_builtin; refine wpList_app1f rfl (.tmp 86) (.tmp 88) rfl wN.heap.size lv L rfl HBC.out.2 OG f' rfl HNG.out (by have := H9.out.2.2.2; omega) HBC.out.1.size ?_))
                      intro v2 w10 gl gb _
                      have HN2 : Hid (Below wN.heap.size wN w10 ∧ FL w10 wN.heap.size v2 (L ++ [f']) ∧ en = cnN p (S.take (k + 1)) ∧ L ++ [f'] = (S.take (k + 1)).filterMap (lf p)) := by
                        refine ⟨HBC.out.1.trans ((Ch.ofGrown gb).below (fun q hq => fl_base HBC.out.2 hq) HBC.out.1.size), gl, ?_, ?_⟩
                        · rw [cn_take HF.out.1, ← HK.out.2.2.1, HFL.out, t1]; rfl
                        · rw [lf_take HF.out.1, ← HK.out.2.2.2, H9.out.2.2.1]; rfl
                      clear gl gb
                      go_wp2_with fail
                      go_roundw
                      case rel => exact ⟨k + 1, en, (L ++ [f']), by first | rfl | go_num, by first | rfl | go_num, by have := HKN.out; omega, HN2.out⟩
                      case measure => have := HKN.out; simp [intOf]; omega
                    · have t2 : decide ((p : Int) < fle) = false := decide_eq_false h2
                      have HN2 : Hid (Below wN.heap.size wN wr ∧ FL wr wN.heap.size lv L ∧ en = cnN p (S.take (k + 1)) ∧ L = (S.take (k + 1)).filterMap (lf p)) := by
                        refine ⟨HK.out.1, HK.out.2.1, ?_, ?_⟩
                        · rw [cn_take HF.out.1, ← HK.out.2.2.1, HFL.out, t1]; rfl
                        · rw [lf_take HF.out.1, ← HK.out.2.2.2]
                          unfold lf
                          rw [HFL.out, if_neg h2]
                          simp
                      clear h1 h2 hfl
                      go_wp2_with fail
                      go_roundw
                      case rel => exact ⟨k + 1, en, L, by first | rfl | go_num, by first | rfl | go_num, by have := HKN.out; omega, HN2.out⟩
                      case measure => have := HKN.out; simp [intOf]; omega
              · as_aux_lemma =>
                  have a1 : decide ((k : Int) < (nS : Int)) = false := decide_eq_false (by omega)
                  have a2 : decide (k < nS) = false := decide_eq_false hkn
                  have HKE : Hid (en = cnN p S ∧ L = S.filterMap (lf p) ∧ en = endN Ep) := by
                    have e1 : S.take k = S := List.take_of_length_le (by rw [HD.out.2.1]; omega)
                    have h1 := HK.out.2.2
                    rw [e1] at h1
                    refine ⟨h1.1, h1.2, ?_⟩
                    rw [HP.out.2.2, endN_tkn HD.out.2.2.2.2 HD.out.1.1, h1.1, show p - 1 + 1 = p by have := HP.out.1; omega]
                  have H8 : Hid (FT w t M N cc Ep wr ∧ FL wr w6.heap.size (.slice (some ⟨gS, 0, none⟩) nS cS) S ∧ FL wr wN.heap.size lv L) := ⟨HWN.out.1.below HK.out.1, HWN.out.2.below HK.out.1, HK.out.2.1⟩
                  have QK : Hid _ := H8.out.1.tick
                  rw [← HKE.out.2.2] at QK
                  have tq : ((en : Int) != (en : Int)) = false := by simp
                  clear hkn hk HK
                  go_wp2_with fail
                  refine Calls.mono QK.out ?_
                  rintro e9 w9 ⟨rfl, hF, k9⟩
                  have H9 : Hid (FT w t M N cc (tkn p E6) w9 ∧ FL w9 w6.heap.size (.slice (some ⟨gS, 0, none⟩) nS cS) S ∧ FL w9 wN.heap.size lv L) := by
                    have e1 : Ep.filterMap tk1 = tkn p E6 := by
                      rw [HP.out.2.2]
                      have e2 : p = (p - 1) + 1 := by have := HP.out.1; omega
                      conv => rhs; rw [e2]
                      rfl
                    rw [e1] at hF
                    exact ⟨hF, fl_tick H8.out.1 H8.out.2.1 k9 (fun q hq g hg e => by have h1 := HTB.out q (tb_tkn _ q (by rw [← HP.out.2.2]; exact hq)); have h2 := fl_base H8.out.2.1 hg; omega), fl_tick H8.out.1 H8.out.2.2 k9 (fun q hq g hg e => by have h1 := HWN.out.1.ta.tlt q hq; have h2 := fl_base H8.out.2.2 hg; omega)⟩
                  have QD : Hid _ := H9.out.1.dump
                  clear hF k9 QK H8
                  go_wp2_with fail
                  refine Calls.mono QD.out ?_
                  rintro e10 w10 ⟨v10, T, rfl, hD, hF, _, b10⟩
                  have HTS : Hid (T = L) := by
                    show T = L
                    rw [HKE.out.2.1]
                    exact dump_tkn HD.out.2.2.1 HD.out.2.2.2.1 HD.out.2.2.2.2 HD.out.1 p hD
                  rw [HTS.out] at hF
                  have H10 : Hid (FT w t M N cc (tkn p E6) w10 ∧ FL w10 w6.heap.size (.slice (some ⟨gS, 0, none⟩) nS cS) S ∧ FL w10 wN.heap.size lv L ∧ FL w10 w9.heap.size v10 L) := ⟨H9.out.1.below b10, H9.out.2.1.below b10, H9.out.2.2.below b10, hF⟩
                  have hL4 : L.length ≤ 4096 := by
                    rw [HKE.out.2.1]
                    have e1 := List.length_filterMap_le (lf p) S
                    have := HD.out.2.1
                    omega
                  have QS : Hid _ := sameFlows_any w9.heap.size wN.heap.size v10 lv L w10 H10.out.2.2.2 H10.out.2.2.1 hL4
                  clear hD hF b10 QD H9 hL4
                  go_wp2_with fail
                  refine Calls.mono QS.out ?_
                  rintro e11 w11 ⟨rfl, b11⟩
                  have H11 : Hid (FT w t M N cc (tkn (p + 1 - 1) E6) w11 ∧ FL w11 w6.heap.size (.slice (some ⟨gS, 0, none⟩) nS cS) S) := ⟨H10.out.1.below b11, H10.out.2.1.below b11⟩
                  clear b11 QS H10
                  go_wp2_with fail
                  go_roundw
                  case rel => exact ⟨p + 1, by first | rfl | go_num, by omega, by have := HP.out; omega, H11.out⟩
                  case measure => have := HP.out; simp [intOf]; omega
end Go.Proofs.YtclpeepnngegaaaDoor
