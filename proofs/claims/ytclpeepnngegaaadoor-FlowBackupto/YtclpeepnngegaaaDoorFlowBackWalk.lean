/-
  FlowBack: the walk.
-/
import Derived.Test.YtclpeepnngegaaaDoorF7X
namespace Go.Proofs.YtclpeepnngegaaaDoor
open Go.RowKit Go.Maps

theorem TL.kt {w w' : World} {base : Nat} {v : Value} {L : List TU} (h : TL w base v L) (k : Kt w w') : TL w' base v L := by
  refine ⟨h.1, ?_⟩
  rcases h.2 with hn | ⟨g, cap, cur, rfl, hb, hgg, rest⟩
  · exact .inl hn
  · exact .inr ⟨g, cap, cur, rfl, hb, k.blk g _ _ hgg (by decide) (by decide), rest⟩
theorem tl_base {w : World} {base : Nat} {v : Value} {L : List TU} (h : TL w base v L) {q : Nat} (hq : v.ownBlock = some q) : base ≤ q := by
  rcases h.2 with ⟨rfl, _⟩ | ⟨g, cap, cur, rfl, hb, _⟩
  · simp [Value.ownBlock] at hq
  · simp only [Value.ownBlock, Option.some.injEq] at hq
    omega
theorem StpAt.kt {w w' : World} {O : Nat} {x : SV} (h : StpAt w O x) (k : Kt w w') : StpAt w' O x := k.blk O _ _ h (by decide) (by decide)
theorem Kt.ch {t M N : Nat} {c : CF} {E : List FV} {a b : World} (ha : TA a t M N c E) (k : Ch (TB t M N E) a b) : Kt a b := (Kt.ofBelow (Below.refl _ _)).tb ha k
theorem any_next {G : List TU} {k : Nat} {x z : TU} (h : G[k]? = some x) : (G.take (k + 1)).any (fun x => eqP x.rev z) = ((G.take k).any (fun x => eqP x.rev z) || eqP x.rev z) := by
  rw [List.take_add_one, h]
  simp
theorem tl_lt {w : World} {base : Nat} {v : Value} {L : List TU} (h : TL w base v L) {q : Nat} (hq : v.ownBlock = some q) : q < w.heap.size := by
  rcases h.2 with ⟨rfl, _⟩ | ⟨g, cap, cur, rfl, hb, hgg, _⟩
  · simp [Value.ownBlock] at hq
  · simp only [Value.ownBlock, Option.some.injEq] at hq
    subst hq
    exact (Array.getElem?_eq_some_iff.1 hgg).1
theorem tl_kind {w : World} {base : Nat} {v : Value} {L : List TU} (h : TL w base v L) {q : Nat} (hq : v.ownBlock = some q) : ∃ cc, w.heap[q]? = some (.cells cc 34 (0, 0)) := by
  rcases h.2 with ⟨rfl, _⟩ | ⟨g, cap, cur, rfl, hb, hgg, _⟩
  · simp [Value.ownBlock] at hq
  · simp only [Value.ownBlock, Option.some.injEq] at hq
    subst hq
    exact ⟨_, hgg⟩
theorem tl_stp {w : World} {base : Nat} {v : Value} {L : List TU} (h : TL w base v L) {q : Nat} {s : SV} (hq : v.ownBlock = some q) (hs : StpAt w q s) : False := by
  obtain ⟨cc, h1⟩ := tl_kind h hq
  unfold StpAt at hs
  rw [hs] at h1
  simp only [Option.some.injEq, Obj.cells.injEq] at h1
  exact absurd h1.2.1 (by decide)
theorem ft_ch {W : World} {t M N : Nat} {c : CF} {E : List FV} {w w' : World} {S : Nat → Prop} (h : FT W t M N c E w) (k : Ch S w w') (hS : ∀ q, S q → (∃ cc, w.heap[q]? = some (.cells cc 34 (0, 0))) ∧ W.heap.size ≤ q) : FT W t M N c E w' := { h with ta := h.ta.ch k (fun q hq hs => by obtain ⟨⟨cc, h1⟩, _⟩ := hS q hs; exact h.ta.nb h1 (by decide) (by decide) hq), bel := h.bel.trans (k.below (fun q hq => (hS q hq).2) h.bel.size) }
theorem rng_below {w w' : World} {g o : Nat} {l : List Value} (hg : g < w.heap.size) (b : Below w.heap.size w w') (r : w.rangeAt g o l) : w'.rangeAt g o l := fun j v hj => by
  rw [← r j v hj]
  exact World.cell?_of_block (b.block g hg)
set_option maxHeartbeats 25600000 in
set_option maxRecDepth 100000 in
theorem flowBack.walk (w : World) (hT : Gl w) (c : CF) (hc : ∀ i, i < 16 → c.o i < 256) (b : Option Addr) (len bcap : Nat) (ss : List SV) (hl : ss.length = len) (hs : ListG 41 stL SV.Wf w b ss) (hn : len ≤ 1048576) : Calls Tryd.prog 3 #[.agg (cfC c), .slice b len bcap] w fun e w' => e = .returned (.bool true) ∧ Below w.heap.size w w' := by
  have HG : Hid (Gl w ∧ (∀ i, i < 16 → c.o i < 256)) := ⟨hT, hc⟩
  have HS : Hid (ListG 41 stL SV.Wf w b ss ∧ ss.length = len ∧ len ≤ 1048576) := ⟨hs, hl, hn⟩
  have hlen := hn
  clear hT hc hs hl hn
  have hb := cfg_new w c
  have bel : Below w.heap.size w (w.alloc (.cells (cfC c) 26)) := (Below.refl _ _).alloc (Nat.le_refl _) _
  obtain ⟨CX, hC⟩ : ∃ C, C = cfC c := ⟨_, rfl⟩
  obtain ⟨W, hW⟩ : ∃ W_, W_ = w.alloc (.cells (cfC c) 26) := ⟨_, rfl⟩
  rw [← hW] at hb bel
  have HSZX : Hid (W.heap.size = w.heap.size + 1) := by show _ = _; rw [hW, World.size_alloc]
  obtain ⟨B, hB⟩ : ∃ B, B = w.heap.size := ⟨_, rfl⟩
  rw [← hB] at hb
  have HBX : Hid (CfgAt W B c) := hb
  rw [← hC] at hW ⊢
  have HOX : Hid (w.heap.size = B) := hB.symm
  have HLX : Hid (Below w.heap.size w W) := bel
  have HWX : Hid (w.alloc (.cells CX 26) = W) := hW.symm
  clear hb hW hB hC bel
  go_enter Tryd.func3, Tryd.ntmps3
  have QT : Hid _ := table_cf c W w HG.out.2 HG.out.1 HLX.out
  go_wp2_with (first | (rw [HOX.out, HWX.out]) | (refine wpList_load_cfg (.tmp 2) rfl B c rfl HBX.out rfl ?_))
  refine Calls.mono QT.out ?_
  rintro e1 w1 ⟨t, M, N, cc, rfl, f1, b1, hcf⟩
  have H1 : Hid (FT w t M N cc [] w1) := f1
  have HV : Hid (vld cc.oV cc.o = true) := cf_vld hcf
  clear f1 b1 QT hcf
  obtain ⟨Y6, hY⟩ : ∃ Y, Y = w1.alloc (.cells (cfC cz) 26) := ⟨_, rfl⟩
  have bY : Below w1.heap.size w1 Y6 := by rw [hY]; exact (Below.refl _ _).alloc (Nat.le_refl _) _
  obtain ⟨O6, hO⟩ : ∃ O, O = w1.heap.size := ⟨_, rfl⟩
  have HNV : Hid (CfgAt Y6 O6 cz) := by show CfgAt Y6 O6 cz; rw [hY, hO]; exact cfg_new w1 cz
  have HLV : Hid (Below w1.heap.size w1 Y6) := bY
  have HEV : Hid (w1.alloc (.cells (cfC cz) 26) = Y6) := hY.symm
  have HOV : Hid (w1.heap.size = O6) := hO.symm
  clear hY bY hO
  go_wp2_with (first | (refine wpList_alloc_cfg rfl rfl ?_; rw [HEV.out, HOV.out]) | (refine wpList_store_cfg (.tmp 6) (.tmp 24) rfl rfl O6 cz cc rfl rfl HNV.out rfl ?_))
  intro w2 h2 k2
  have H2 : Hid (FT w t M N cc [] w2) := (H1.out.below HLV.out).chO k2 (by have h1 := H1.out.bel.size; have h2 := HOV.out; omega) (fun q hq e => (H1.out.below HLV.out).ta.nb HNV.out (by decide) (by decide) (by subst e; exact hq))
  clear h2 k2 H1 HNV HLV HEV HOV
  have QB : Hid _ := begun_any w2 (H2.out.gl HG.out.1)
  go_wp2_with fail
  refine Calls.mono QB.out ?_
  rintro e3 w3 ⟨rfl, b3⟩
  have H3 : Hid (FT w t M N cc [] w3) := H2.out.below b3
  clear b3 QB H2
  obtain ⟨Y8, hY⟩ : ∃ Y, Y = w3.alloc (.cells (tuC xz) 34) := ⟨_, rfl⟩
  have bY : Below w3.heap.size w3 Y8 := by rw [hY]; exact (Below.refl _ _).alloc (Nat.le_refl _) _
  obtain ⟨O8, hO⟩ : ∃ O, O = w3.heap.size := ⟨_, rfl⟩
  have HNV : Hid (TupAt Y8 O8 xz) := by show TupAt Y8 O8 xz; rw [hY, hO]; exact tup_new w3 xz
  have HLV : Hid (Below w3.heap.size w3 Y8) := bY
  have HEV : Hid (w3.alloc (.cells (tuC xz) 34) = Y8) := hY.symm
  have HOV : Hid (w3.heap.size = O8) := hO.symm
  clear hY bY hO
  obtain ⟨N8, hN8⟩ : ∃ n, n = Y8.heap.size := ⟨_, rfl⟩
  have HO8 : Hid (w.heap.size ≤ O8 ∧ O8 < N8 ∧ N8 = Y8.heap.size) := by have h1 := H3.out.bel.size; have h2 := HOV.out; have h3 := HNV.out.lt; show _ ≤ _ ∧ _ < _ ∧ _ = _; omega
  have H4 : Hid (FT w t M N cc [] Y8 ∧ TupAt Y8 O8 xz ∧ TL Y8 N8 (.slice none 0 0) [] ∧ (∀ a : FV, a ∈ [] → OkB cc a.n) ∧ Gn [] [] ∧ (xz).Wf ∧ (∀ x : TU, x ∈ [] → x.Wf)) := ⟨H3.out.below HLV.out, HNV.out, TL.nil _ _, fun a ha => (by cases ha), fun a ha => (by cases ha), xz_wf, fun a ha => (by cases ha)⟩
  have HN0 : Hid (N8 ≤ Y8.heap.size) := by show _ ≤ _; omega
  clear hN8
  go_upto_region 6 with (first | (refine wpList_alloc_tup rfl rfl ?_; rw [HEV.out, HOV.out]))
  clear HNV HLV HEV HOV H3
  go_wp2_with fail
  go_loopw [7, 9] (fun gx ix wr => ∃ (i : Nat) (E : List FV) (G : List TU) (y : TU), ix = .int .i64 (i : Nat) ∧ i ≤ len ∧ Hid (G.length ≤ i ∧ G.length ≤ 400 ∧ N8 ≤ wr.heap.size) ∧ Hid (FT w t M N cc E wr ∧ TupAt wr O8 y ∧ TL wr N8 gx G ∧ (∀ a : FV, a ∈ E → OkB cc a.n) ∧ Gn G E ∧ (y).Wf ∧ (∀ x : TU, x ∈ G → x.Wf))) (fun _ ix _ => len - (intOf ix).toNat)
  case atStart => exact ⟨0, [], [], xz, rfl, Nat.zero_le _, ⟨Nat.le_refl _, by simp, HN0.out⟩, H4.out⟩
  case round =>
    clear H4 HN0
    obtain ⟨i, E, G, y, rfl, hi, HGN, HI⟩ := hrel
    obtain ⟨gv, hgv⟩ : ∃ v, v = u7 := ⟨_, rfl⟩
    rw [← hgv] at HI ⊢
    obtain ⟨ga, gc, hgf⟩ := HI.out.2.2.1.form
    obtain ⟨nG, hnG⟩ : ∃ n, G.length = n := ⟨_, rfl⟩
    rw [hnG] at hgf HGN
    have HNG : Hid (G.length = nG) := hnG
    subst hgf
    clear hgv hnG
    by_cases hgo : i < len ∧ i < 400
    · as_aux_lemma =>
        obtain ⟨hlt, h400⟩ := hgo
        have p1 : decide ((i : Int) < (len : Int)) = true := decide_eq_true (by omega)
        have p2 : decide (i < len) = true := decide_eq_true hlt
        have p3 : decide ((i : Int) < 400) = true := decide_eq_true (by omega)
        have p4 : decide (i < 400) = true := decide_eq_true h400
        have k0 : (0 : Int) ≤ (i : Int) := by omega
        have k1 : (i : Int) < (len : Int) := by omega
        have k2 : ((i : Int)).toNat = i := by omega
        have wi : IntKind.i64.wrap ((i : Int) + 1) = (i : Int) + 1 := i64_k _ (by omega) (by omega)
        obtain ⟨s, hsw, g, off, rfl, hrg⟩ := st_at HS.out.1 HI.out.1.bel i (by rw [HS.out.2.1]; exact hlt)
        have HRG : Hid (wr.rangeAt g (off + i * 41) (stC s).toList) := hrg
        have HSW : Hid s.Wf := hsw
        have HLT : Hid (i < len ∧ i < 400) := ⟨hlt, h400⟩
        clear hrg hsw hlt hi h400
        obtain ⟨YS, hY⟩ : ∃ Y, Y = wr.alloc (.cells (stC sz) 36) := ⟨_, rfl⟩
        have bY : Below wr.heap.size wr YS := by rw [hY]; exact (Below.refl _ _).alloc (Nat.le_refl _) _
        obtain ⟨OS, hO⟩ : ∃ O, O = wr.heap.size := ⟨_, rfl⟩
        have HNS : Hid (StpAt YS OS sz) := by show StpAt YS OS sz; rw [hY, hO]; exact stp_new wr sz
        have HLS : Hid (Below wr.heap.size wr YS) := bY
        have HES : Hid (wr.alloc (.cells (stC sz) 36) = YS) := hY.symm
        have HOS : Hid (wr.heap.size = OS) := hO.symm
        clear hY bY hO
        go_upto_region 10 with (first | (refine wpList_mid_stp (.tmp 43) rfl g (off + i * 41) s rfl HRG.out rfl ?_) | (refine wpList_alloc_stp rfl rfl ?_; rw [HES.out, HOS.out]) | (refine wpList_store_stp (.tmp 10) (.tmp 44) rfl rfl OS sz s rfl rfl HNS.out rfl ?_; intro w1 h1 k1_))
        have b1 : Below wr.heap.size wr w1 := HLS.out.trans (k1_.below (fun q hq => by have hq' : q = OS := hq; have := HOS.out; omega) HLS.out.size)
        have H1 : Hid (FT w t M N cc E w1 ∧ TupAt w1 O8 y ∧ TL w1 N8 (.slice ga nG gc) G ∧ (∀ a : FV, a ∈ E → OkB cc a.n) ∧ Gn G E ∧ (y).Wf ∧ (∀ x : TU, x ∈ G → x.Wf)) := ⟨HI.out.1.below b1, HI.out.2.1.below b1, HI.out.2.2.1.below b1, HI.out.2.2.2⟩
        have HSB : Hid (StpAt w1 OS s) := h1
        have HN1 : Hid (nG ≤ i ∧ nG ≤ 400 ∧ N8 ≤ w1.heap.size) := ⟨HGN.out.1, HGN.out.2.1, Nat.le_trans HGN.out.2.2 b1.size⟩
        have HOS8 : Hid (N8 ≤ OS) := by have h1 := HGN.out.2.2; have h2 := HOS.out; show _ ≤ _; omega
        clear h1 k1_ b1 HRG HI HGN HNS HLS HES HOS p1 p2 p3 p4
        have QL : Hid _ := H1.out.1.lens
        obtain ⟨n0, hn0⟩ : ∃ n, E.length = n := ⟨_, rfl⟩
        rw [hn0] at QL
        have HN0 : Hid (E.length = n0) := hn0
        clear hn0
        go_wp2_with fail
        refine Calls.mono QL.out ?_
        rintro e2 w2 ⟨rfl, rfl⟩
        clear QL
        obtain ⟨kd, hkd⟩ : ∃ k, s.kd = k := ⟨_, rfl⟩
        obtain ⟨fl, hfl⟩ : ∃ k, s.fl = k := ⟨_, rfl⟩
        obtain ⟨pr, hpr⟩ : ∃ k, s.x.pr = k := ⟨_, rfl⟩
        have HKD : Hid (s.kd = kd ∧ s.fl = fl ∧ s.x.pr = pr) := ⟨hkd, hfl, hpr⟩
        have HCE : Hid (∀ A : World, StpAt A OS s → A.cell? ⟨OS, 0, none⟩ = some (.int .i64 kd) ∧ A.cell? ⟨OS, 39, none⟩ = some (.int .i64 fl) ∧ A.cell? ⟨OS, 2, none⟩ = some (.int .i64 pr)) := fun A hA => by
          have h0 := hA.cell 0
          have h1 := hA.cell 39
          have h2 := hA.cell 2
          rw [← hkd, ← hfl, ← hpr]
          exact ⟨h0, h1, h2⟩
        clear hkd hfl hpr
        have c0 : w1.cell? ⟨OS, 0, none⟩ = some (.int .i64 kd) := (HCE.out _ HSB.out).1
        by_cases h1 : kd = 1
        · have q1 : (kd == 1) = true := by simpa using h1
          clear h1
          as_aux_lemma =>
            have QO : Hid _ := H1.out.1.out HG.out.1 s.x HSW.out.x fl
            have c39 : w1.cell? ⟨OS, 39, none⟩ = some (.int .i64 fl) := (HCE.out _ HSB.out).2.1
            go_wp2_with (first | (refine wpList_mid_tup (.tmp 53) rfl OS 2 s.x rfl HSB.out.x rfl ?_))
            refine Calls.mono QO.out ?_
            rintro e3 w3 ⟨er, y3, E3, rfl, hR, hF, k3⟩
            have kt3 : Kt w1 w3 := Kt.ch H1.out.1.ta k3
            have H3 : Hid (FT w t M N cc E3 w3 ∧ TupAt w3 O8 y ∧ TL w3 N8 (.slice ga nG gc) G ∧ StpAt w3 OS s) := ⟨hF, H1.out.2.1.kt kt3, H1.out.2.2.1.kt kt3, HSB.out.kt kt3⟩
            have HR : Hid (OutR cc E s.x fl w1.heap.size er y3 E3 ∧ y3.Wf ∧ N8 ≤ w3.heap.size) := ⟨hR, out_wf H1.out.1 hR hF, Nat.le_trans HN1.out.2.2 kt3.size⟩
            have HKS : Hid (w1.heap.size ≤ w3.heap.size) := kt3.size
            clear hR hF k3 kt3 QO c0 c39
            obtain ⟨YY, hY⟩ : ∃ Y, Y = w3.alloc (.cells (tuC xz) 34) := ⟨_, rfl⟩
            have bY : Below w3.heap.size w3 YY := by rw [hY]; exact (Below.refl _ _).alloc (Nat.le_refl _) _
            obtain ⟨OY, hO⟩ : ∃ O, O = w3.heap.size := ⟨_, rfl⟩
            have HNY : Hid (TupAt YY OY xz) := by show TupAt YY OY xz; rw [hY, hO]; exact tup_new w3 xz
            have HLY : Hid (Below w3.heap.size w3 YY) := bY
            have HEY : Hid (w3.alloc (.cells (tuC xz) 34) = YY) := hY.symm
            have HOY : Hid (w3.heap.size = OY) := hO.symm
            clear hY bY hO
            go_upto_region 14 with (first | (refine wpList_alloc_tup rfl rfl ?_; rw [HEY.out, HOY.out]) | (refine wpList_store_tup (.tmp 12) (.tmp 58) rfl rfl OY xz y3 rfl rfl HNY.out rfl ?_; intro w4 h4 k4))
            have b4 : Below w3.heap.size w3 w4 := HLY.out.trans (k4.below (fun q hq => by have hq' : q = OY := hq; have := HOY.out; omega) HLY.out.size)
            have H4 : Hid (FT w t M N cc E3 w4 ∧ TupAt w4 O8 y ∧ TL w4 N8 (.slice ga nG gc) G ∧ StpAt w4 OS s ∧ TupAt w4 OY y3) := ⟨H3.out.1.below b4, H3.out.2.1.below b4, H3.out.2.2.1.below b4, H3.out.2.2.2.below b4, h4⟩
            have HOYW : Hid (w1.heap.size ≤ OY) := by have h1 := HKS.out; have h2 := HOY.out; show _ ≤ _; omega
            have HN4 : Hid (N8 ≤ w4.heap.size ∧ N8 ≤ OY) := by have h1 := HR.out.2.2; have h2 := b4.size; have h3 := HOY.out; show _ ∧ _; omega
            clear h4 k4 b4 H3 HNY HLY HEY HOY
            by_cases her : er = 0
            case neg =>
              have z1 : (er != 0) = true := by simpa using her
              obtain ⟨hy3, hE3⟩ := out_no HR.out.1 her
              subst hy3
              have HZ : Hid (FT w t M N cc E3 w4 ∧ TupAt w4 O8 y ∧ TL w4 N8 (.slice ga nG gc) G ∧ (∀ a : FV, a ∈ E3 → OkB cc a.n) ∧ Gn G E3 ∧ (y).Wf ∧ (∀ x : TU, x ∈ G → x.Wf)) := ⟨H4.out.1, H4.out.2.1, H4.out.2.2.1, by rw [hE3]; exact H1.out.2.2.2.1, by rw [hE3]; exact H1.out.2.2.2.2.1, H1.out.2.2.2.2.2⟩
              have QL : Hid _ := H4.out.1.lens
              have hn3 : E3.length = n0 := by rw [hE3]; exact HN0.out
              rw [hn3] at QL
              have HNZ : Hid (G.length ≤ i + 1 ∧ G.length ≤ 400 ∧ N8 ≤ w4.heap.size) := by have h1 := HN1.out; have h2 := HNG.out; have h3 := HN4.out; show _ ∧ _ ∧ _; omega
              have z2 : ((n0 : Int) != (n0 : Int)) = false := by simp
              clear her hE3 hn3 H1
              go_wp2_with (first | (refine wpList_load_tup (.tmp 12) rfl OY xz rfl H4.out.2.2.2.2 rfl ?_) | (refine wpList_build_tu0 rfl rfl ?_) | (refine wpList_neq_tu (.tmp 62) (.tmp 63) rfl xz xz rfl rfl false (by rw [eqP_refl]; rfl) rfl ?_))
              refine Calls.mono QL.out ?_
              rintro e5 w5 ⟨rfl, rfl⟩
              clear QL H4
              go_wp2_with fail
              go_roundw
              case rel => exact ⟨i + 1, E3, G, y, by first | rfl | go_num, by have := HLT.out; omega, HNZ.out, HZ.out⟩
              case measure => have := HLT.out; simp [intOf]; omega
            have z1 : (er != 0) = false := by rw [her]; rfl
            subst her
            obtain ⟨wC, hwC⟩ : ∃ W_, W_ = w4.alloc (.cells (tuC s.x) 34) := ⟨_, rfl⟩
            have bC : Below w4.heap.size w4 wC := by rw [hwC]; exact (Below.refl _ _).alloc (Nat.le_refl _) _
            obtain ⟨OG, hOG⟩ : ∃ O, O = w4.heap.size := ⟨_, rfl⟩
            have HNG2 : Hid (TupAt wC OG s.x) := by show TupAt wC OG s.x; rw [hwC, hOG]; exact tup_new w4 s.x
            have HEG : Hid (w4.alloc (.cells (tuC s.x) 34) = wC) := hwC.symm
            have HOG : Hid (w4.heap.size = OG) := hOG.symm
            have HC : Hid (FT w t M N cc E3 wC ∧ TupAt wC O8 y ∧ TL wC N8 (.slice ga nG gc) G ∧ StpAt wC OS s ∧ TupAt wC OY y3 ∧ N8 ≤ wC.heap.size) := ⟨H4.out.1.below bC, H4.out.2.1.below bC, H4.out.2.2.1.below bC, H4.out.2.2.2.1.below bC, H4.out.2.2.2.2.below bC, Nat.le_trans HN4.out.1 bC.size⟩
            have HGA : Hid (∀ q, (Value.slice ga nG gc).ownBlock = some q → q < w1.heap.size ∧ N8 ≤ q) := fun q hq => ⟨tl_lt H1.out.2.2.1 hq, tl_base H1.out.2.2.1 hq⟩
            clear hwC hOG bC
            go_upto_region 18 with (first | (refine wpList_mid_tup (.tmp 72) rfl OS 2 s.x rfl H4.out.2.2.2.1.x rfl ?_) | (refine wpList_bs1t (.tmp 73) rfl s.x rfl rfl ?_; rw [HEG.out, HOG.out]) | (at_builtin; refine wpList_app1t rfl (.tmp 71) (.tmp 74) rfl N8 (.slice ga nG gc) G rfl HC.out.2.2.1 OG s.x rfl HNG2.out (by have h1 := HN1.out.2.1; have h2 := HNG.out; omega) HC.out.2.2.2.2.2 ?_; intro gv5 w5 gl5 gb5 gn5))
            have k5 := Ch.ofGrown gb5
            have H5 : Hid (FT w t M N cc E3 w5 ∧ TupAt w5 O8 y ∧ TL w5 N8 gv5 (G ++ [s.x]) ∧ StpAt w5 OS s ∧ TupAt w5 OY y3 ∧ N8 ≤ w5.heap.size) := by
              have b5 : Below N8 wC w5 := k5.below (fun q hq => (HGA.out q hq).2) HC.out.2.2.2.2.2
              refine ⟨ft_ch HC.out.1 k5 (fun q hq => ⟨tl_kind HC.out.2.2.1 hq, by have h1 := (HGA.out q hq).2; have h2 := HO8.out; omega⟩), HC.out.2.1.ch k5 (fun q => by have h1 := (HGA.out O8 q).2; have h2 := HO8.out; omega), gl5, HC.out.2.2.2.1.ch k5 (fun q => tl_stp HC.out.2.2.1 q HC.out.2.2.2.1), HC.out.2.2.2.2.1.ch k5 (fun q => by have h1 := (HGA.out OY q).1; have h2 := HOYW.out; omega), Nat.le_trans HC.out.2.2.2.2.2 b5.size⟩
            clear gl5 gb5 gn5 k5 H4 HNG2 HEG HOG HC
            go_upto_region 19 with (first | (refine wpList_load_tup (.tmp 12) rfl OY y3 rfl H5.out.2.2.2.2.1 rfl ?_) | (refine wpList_store_tup (.tmp 8) (.tmp 76) rfl rfl O8 y y3 rfl rfl H5.out.2.1 rfl ?_; intro w6 h6 k6))
            have H6 : Hid ((FT w t M N cc E3 w6 ∧ TupAt w6 O8 y3 ∧ TL w6 N8 gv5 (G ++ [s.x]) ∧ (∀ a : FV, a ∈ E3 → OkB cc a.n) ∧ Gn (G ++ [s.x]) E3 ∧ (y3).Wf ∧ (∀ x : TU, x ∈ (G ++ [s.x]) → x.Wf)) ∧ StpAt w6 OS s ∧ TupAt w6 OY y3 ∧ N8 ≤ w6.heap.size) := by
              have h8 := HO8.out
              refine ⟨⟨H5.out.1.chO k6 h8.1 (fun q hq e => H5.out.1.ta.nb H5.out.2.1 (by decide) (by decide) (by subst e; exact hq)), h6, H5.out.2.2.1.ch k6 (fun q hq e => by have h1 := tl_base H5.out.2.2.1 hq; have e' : q = O8 := e; omega), OkB.out H1.out.1.ok H1.out.2.2.2.1 HR.out.1, Gn.out H1.out.2.2.2.2.1 HR.out.1, HR.out.2.1, fun x hx => ?_⟩, H5.out.2.2.2.1.ch k6 (fun e => by have e' : OS = O8 := e; have h1 := HOS8.out; have h2 := HO8.out; omega), H5.out.2.2.2.2.1.ch k6 (fun e => by have e' : OY = O8 := e; have h1 := HN4.out.2; have h2 := HO8.out; omega), Nat.le_trans H5.out.2.2.2.2.2 k6.size⟩
              rcases List.mem_append.1 hx with hx | hx
              · exact H1.out.2.2.2.2.2.2 x hx
              · simp only [List.mem_singleton] at hx
                subst hx
                exact HSW.out.x
            have HLG : Hid ((G ++ [s.x]).length ≤ i + 1 ∧ (G ++ [s.x]).length ≤ 400) := by
              have h1 := HN1.out; have h2 := HNG.out; have h3 := HLT.out
              show _ ∧ _
              rw [List.length_append]
              simp only [List.length_cons, List.length_nil]
              omega
            clear h6 k6 H5
            have d2 : w6.cell? ⟨OS, 2, none⟩ = some (.int .i64 pr) := (HCE.out _ H6.out.2.1).2.2
            have d39 : w6.cell? ⟨OS, 39, none⟩ = some (.int .i64 fl) := (HCE.out _ H6.out.2.1).2.1
            obtain ⟨m7, hm7⟩ : ∃ m, bits .and .i64 fl 7 = m := ⟨_, rfl⟩
            obtain ⟨m16, hm16⟩ : ∃ m, bits .and .i64 fl 16 = m := ⟨_, rfl⟩
            by_cases h6 : pr = 6
            · have s6 : (pr == 6) = true := by simpa using h6
              have s6n : (pr != 6) = false := by rw [h6]; rfl
              by_cases h7 : m7 = 2
              · have t7 : (m7 != 2) = false := by rw [h7]; rfl
                by_cases hz16 : m16 = 0
                · have t16 : (m16 == 0) = true := by simpa using hz16
                  have HP : Hid (s.x.pr ≠ 6 ∨ sgN s.x.pr fl = 1) := .inr (by rw [HKD.out.2.2, h6]; exact syn_any (by rw [hm7]; exact h7) (by rw [hm16]; exact hz16))
                  clear h6 h7 hz16
                  as_aux_lemma =>
                    go_upto_region 20 with fail
                    clear d2 d39
                    have QV : Hid _ := reverse_any y3 w6
                    go_wp2_with (first | (refine wpList_load_tup (.tmp 12) rfl OY y3 rfl H6.out.2.2.1 rfl ?_))
                    refine Calls.mono QV.out ?_
                    rintro e7 w7 ⟨rfl, b7⟩
                    have H7 : Hid ((FT w t M N cc E3 w7 ∧ TupAt w7 O8 y3 ∧ TL w7 N8 gv5 (G ++ [s.x]) ∧ (∀ a : FV, a ∈ E3 → OkB cc a.n) ∧ Gn (G ++ [s.x]) E3 ∧ (y3).Wf ∧ (∀ x : TU, x ∈ (G ++ [s.x]) → x.Wf)) ∧ StpAt w7 OS s ∧ N8 ≤ w7.heap.size) := ⟨⟨H6.out.1.1.below b7, H6.out.1.2.1.below b7, H6.out.1.2.2.1.below b7, H6.out.1.2.2.2⟩, H6.out.2.1.below b7, Nat.le_trans H6.out.2.2.2 b7.size⟩
                    have QI : Hid _ := H7.out.1.1.inn HG.out.1 y3.rev HR.out.2.1.rev 18
                    clear b7 QV H6
                    go_wp2_with fail
                    refine Calls.mono QI.out ?_
                    rintro e8 w8 ⟨er, z, E8, rfl, hI, hF, k8⟩
                    have kt8 : Kt w7 w8 := Kt.ch H7.out.1.1.ta k8
                    have H8 : Hid ((FT w t M N cc E8 w8 ∧ TupAt w8 O8 y3 ∧ TL w8 N8 gv5 (G ++ [s.x]) ∧ (∀ a : FV, a ∈ E8 → OkB cc a.n) ∧ Gn (G ++ [s.x]) E8 ∧ (y3).Wf ∧ (∀ x : TU, x ∈ (G ++ [s.x]) → x.Wf)) ∧ StpAt w8 OS s ∧ N8 ≤ w8.heap.size) := ⟨⟨hF, H7.out.1.2.1.kt kt8, H7.out.1.2.2.1.kt kt8, OkB.inn H7.out.1.2.2.2.1 hI, (H7.out.1.2.2.2.2.1.inn hI).1, H7.out.1.2.2.2.2.2⟩, H7.out.2.1.kt kt8, Nat.le_trans H7.out.2.2 kt8.size⟩
                    have HOI : Hid (er = 0 ∧ eqP z s.x.rev = true) := out_in H1.out.1.ok HV.out H7.out.1.1.ta.dj H7.out.1.1.ta.djq H1.out.1.st H7.out.1.2.2.2.1 HR.out.1 HP.out hI
                    obtain ⟨her, _⟩ := HOI.out
                    subst her
                    clear hI hF k8 kt8 QI H7
                    obtain ⟨YZ, hY⟩ : ∃ Y, Y = w8.alloc (.cells (tuC xz) 34) := ⟨_, rfl⟩
                    have bY : Below w8.heap.size w8 YZ := by rw [hY]; exact (Below.refl _ _).alloc (Nat.le_refl _) _
                    obtain ⟨OZ, hO⟩ : ∃ O, O = w8.heap.size := ⟨_, rfl⟩
                    have HNZ : Hid (TupAt YZ OZ xz) := by show TupAt YZ OZ xz; rw [hY, hO]; exact tup_new w8 xz
                    have HLZ : Hid (Below w8.heap.size w8 YZ) := bY
                    have HEZ : Hid (w8.alloc (.cells (tuC xz) 34) = YZ) := hY.symm
                    have HOZ : Hid (w8.heap.size = OZ) := hO.symm
                    clear hY bY hO
                    go_upto_region 21 with (first | (refine wpList_alloc_tup rfl rfl ?_; rw [HEZ.out, HOZ.out]) | (refine wpList_store_tup (.tmp 14) (.tmp 92) rfl rfl OZ xz z rfl rfl HNZ.out rfl ?_; intro w9 h9 k9))
                    have b9 : Below w8.heap.size w8 w9 := HLZ.out.trans (k9.below (fun q hq => by have hq' : q = OZ := hq; have := HOZ.out; omega) HLZ.out.size)
                    have H9 : Hid ((FT w t M N cc E8 w9 ∧ TupAt w9 O8 y3 ∧ TL w9 N8 gv5 (G ++ [s.x]) ∧ (∀ a : FV, a ∈ E8 → OkB cc a.n) ∧ Gn (G ++ [s.x]) E8 ∧ (y3).Wf ∧ (∀ x : TU, x ∈ (G ++ [s.x]) → x.Wf)) ∧ StpAt w9 OS s ∧ N8 ≤ w9.heap.size ∧ TupAt w9 OZ z) := ⟨⟨H8.out.1.1.below b9, H8.out.1.2.1.below b9, H8.out.1.2.2.1.below b9, H8.out.1.2.2.2⟩, H8.out.2.1.below b9, Nat.le_trans H8.out.2.2 b9.size, h9⟩
                    clear h9 k9 b9 H8 HNZ HLZ HEZ HOZ
                    refine MixH.start (fun A => TupAt A OZ z ∧ StpAt A OS s) (by kernel_rfl) ?_
                    obtain ⟨wA, hwA⟩ : ∃ wA, wA = w9.drew := ⟨_, rfl⟩
                    have bdr : Below w9.heap.size w9 wA := by rw [hwA]; exact (Below.refl _ _).drew
                    have HA : Hid ((FT w t M N cc E8 wA ∧ TupAt wA O8 y3 ∧ TL wA N8 gv5 (G ++ [s.x]) ∧ (∀ a : FV, a ∈ E8 → OkB cc a.n) ∧ Gn (G ++ [s.x]) E8 ∧ (y3).Wf ∧ (∀ x : TU, x ∈ (G ++ [s.x]) → x.Wf)) ∧ N8 ≤ wA.heap.size) := ⟨⟨H9.out.1.1.below bdr, H9.out.1.2.1.below bdr, H9.out.1.2.2.1.below bdr, H9.out.1.2.2.2⟩, Nat.le_trans H9.out.2.2.1 bdr.size⟩
                    have hS : TupAt wA OZ z ∧ StpAt wA OS s := ⟨H9.out.2.2.2.below bdr, H9.out.2.1.below bdr⟩
                    rw [← hwA]
                    clear hwA bdr H9
                    refine MixH.takes [true, true, true, false, true] 17 (by kernel_rfl) (by kernel_rfl) (by decide) (by kernel_rfl) hS (fun K hK => ?_)
                    simp only [Mix.pick]
                    repeat (go_big_quiet_step (fail))
                    refine wpQuiet_nil (hK _ ?_)
                    clear hK K
                    refine MixH.take 16 3 _ (.agg (tuC z)) rfl (by kernel_rfl) (by kernel_rfl) (by kernel_rfl) (by kernel_rfl) (yields_tup (.tmp 14) rfl OZ 0 z rfl rfl (fun A hA => hA.1.all)) hS (fun a' ha => ?_)
                    simp only [Act.put, List.setIfInBounds_toArray, List.set_cons_succ, List.set_cons_zero] at ha
                    subst ha
                    refine MixH.take 15 5 _ (.agg (tuC s.x)) rfl (by kernel_rfl) (by kernel_rfl) (by kernel_rfl) (by kernel_rfl) (yields_tup (.tmp 98) rfl OS 2 s.x rfl rfl (fun A hA => hA.2.x)) hS (fun a' ha => ?_)
                    simp only [Act.put, List.setIfInBounds_toArray, List.set_cons_succ, List.set_cons_zero] at ha
                    subst ha
                    refine MixH.one [false, false, false, false, false, false, true] 14 6 _ rfl rfl (by kernel_rfl) (by kernel_rfl) (fun K hK => ?_)
                    simp only [Mix.pick]
                    go_wp2_with fail
                    refine Calls.mono (reverse_any s.x wA) ?_
                    rintro e11 w11 ⟨rfl, b11⟩
                    replace hS : TupAt w11 OZ z ∧ StpAt w11 OS s := ⟨hS.1.below b11, hS.2.below b11⟩
                    have HB : Hid ((FT w t M N cc E8 w11 ∧ TupAt w11 O8 y3 ∧ TL w11 N8 gv5 (G ++ [s.x]) ∧ (∀ a : FV, a ∈ E8 → OkB cc a.n) ∧ Gn (G ++ [s.x]) E8 ∧ (y3).Wf ∧ (∀ x : TU, x ∈ (G ++ [s.x]) → x.Wf)) ∧ N8 ≤ w11.heap.size) := ⟨⟨HA.out.1.1.below b11, HA.out.1.2.1.below b11, HA.out.1.2.2.1.below b11, HA.out.1.2.2.2⟩, Nat.le_trans HA.out.2 b11.size⟩
                    clear b11 HA
                    go_wp2_with fail
                    refine ⟨rfl, hK _ _ hS ?_⟩
                    clear hK K
                    refine MixH.take 13 7 _ (.bool false) rfl (by kernel_rfl) (by kernel_rfl) (by kernel_rfl) (by kernel_rfl) (yields_neq_tu (.tmp 97) (.tmp 100) rfl z s.x.rev rfl rfl false (by rw [HOI.out.2]; rfl) rfl) hS (fun a' ha => ?_)
                    simp only [Act.put, List.setIfInBounds_toArray, List.set_cons_succ, List.set_cons_zero] at ha
                    subst ha
                    refine MixH.takes [false, false, false, false, false, false, false, false, true, true, true, true] 9 (by kernel_rfl) (by kernel_rfl) (by decide) (by kernel_rfl) hS (fun K hK => ?_)
                    simp only [Mix.pick]
                    repeat (go_big_quiet_step (fail))
                    refine wpQuiet_nil (hK _ ?_)
                    clear hK K
                    refine MixH.take 8 12 _ (undef) rfl (by kernel_rfl) (by kernel_rfl) (by kernel_rfl) (by kernel_rfl) (.inr ⟨rfl, rfl⟩) hS (fun a' ha => ?_)
                    simp only [Act.put, List.setIfInBounds_toArray, List.set_cons_succ, List.set_cons_zero] at ha
                    subst ha
                    refine MixH.takes [false, false, false, false, false, false, false, false, false, false, false, false, false, true, true, true] 5 (by kernel_rfl) (by kernel_rfl) (by decide) (by kernel_rfl) hS (fun K hK => ?_)
                    simp only [Mix.pick]
                    repeat (go_big_quiet_step (fail))
                    refine wpQuiet_nil (hK _ ?_)
                    clear hK K
                    refine MixH.take 4 16 _ (undef) rfl (by kernel_rfl) (by kernel_rfl) (by kernel_rfl) (by kernel_rfl) (.inr ⟨rfl, rfl⟩) hS (fun a' ha => ?_)
                    simp only [Act.put, List.setIfInBounds_toArray, List.set_cons_succ, List.set_cons_zero] at ha
                    subst ha
                    refine MixH.takes [false, false, false, false, false, false, false, false, false, false, false, false, false, false, false, false, false, true, true, true, true] 0 (by kernel_rfl) (by kernel_rfl) (by decide) (by kernel_rfl) hS (fun K hK => ?_)
                    simp only [Mix.pick]
                    repeat (go_big_quiet_step (fail))
                    refine wpQuiet_nil (hK _ ?_)
                    clear hK K
                    refine MixH.done (by kernel_rfl) ?_
                    clear hS
                    have HZ : Hid (FT w t M N cc E8 w11 ∧ TupAt w11 O8 y3 ∧ TL w11 N8 gv5 (G ++ [s.x]) ∧ (∀ a : FV, a ∈ E8 → OkB cc a.n) ∧ Gn (G ++ [s.x]) E8 ∧ (y3).Wf ∧ (∀ x : TU, x ∈ (G ++ [s.x]) → x.Wf)) := HB.out.1
                    have HNZ : Hid ((G ++ [s.x]).length ≤ i + 1 ∧ (G ++ [s.x]).length ≤ 400 ∧ N8 ≤ w11.heap.size) := ⟨HLG.out.1, HLG.out.2, HB.out.2⟩
                    go_wp2_with fail
                    go_roundw
                    case rel => exact ⟨i + 1, E8, (G ++ [s.x]), y3, by first | rfl | go_num, by have := HLT.out; omega, HNZ.out, HZ.out⟩
                    case measure => have := HLT.out; simp [intOf]; omega
                · have t16 : (m16 == 0) = false := by simpa using hz16
                  clear h6 h7 hz16
                  as_aux_lemma =>
                    go_upto_region 20 with fail
                    clear d2 d39
                    have QV : Hid _ := reverse_any y3 w6
                    go_wp2_with (first | (refine wpList_load_tup (.tmp 12) rfl OY y3 rfl H6.out.2.2.1 rfl ?_))
                    refine Calls.mono QV.out ?_
                    rintro e7 w7 ⟨rfl, b7⟩
                    have H7 : Hid ((FT w t M N cc E3 w7 ∧ TupAt w7 O8 y3 ∧ TL w7 N8 gv5 (G ++ [s.x]) ∧ (∀ a : FV, a ∈ E3 → OkB cc a.n) ∧ Gn (G ++ [s.x]) E3 ∧ (y3).Wf ∧ (∀ x : TU, x ∈ (G ++ [s.x]) → x.Wf)) ∧ StpAt w7 OS s ∧ N8 ≤ w7.heap.size) := ⟨⟨H6.out.1.1.below b7, H6.out.1.2.1.below b7, H6.out.1.2.2.1.below b7, H6.out.1.2.2.2⟩, H6.out.2.1.below b7, Nat.le_trans H6.out.2.2.2 b7.size⟩
                    have QI : Hid _ := H7.out.1.1.inn HG.out.1 y3.rev HR.out.2.1.rev 18
                    clear b7 QV H6
                    go_wp2_with fail
                    refine Calls.mono QI.out ?_
                    rintro e8 w8 ⟨er, z, E8, rfl, hI, hF, k8⟩
                    have kt8 : Kt w7 w8 := Kt.ch H7.out.1.1.ta k8
                    have H8 : Hid ((FT w t M N cc E8 w8 ∧ TupAt w8 O8 y3 ∧ TL w8 N8 gv5 (G ++ [s.x]) ∧ (∀ a : FV, a ∈ E8 → OkB cc a.n) ∧ Gn (G ++ [s.x]) E8 ∧ (y3).Wf ∧ (∀ x : TU, x ∈ (G ++ [s.x]) → x.Wf)) ∧ StpAt w8 OS s ∧ N8 ≤ w8.heap.size) := ⟨⟨hF, H7.out.1.2.1.kt kt8, H7.out.1.2.2.1.kt kt8, OkB.inn H7.out.1.2.2.2.1 hI, (H7.out.1.2.2.2.2.1.inn hI).1, H7.out.1.2.2.2.2.2⟩, H7.out.2.1.kt kt8, Nat.le_trans H7.out.2.2 kt8.size⟩
                    clear hI hF k8 kt8 QI H7
                    obtain ⟨YZ, hY⟩ : ∃ Y, Y = w8.alloc (.cells (tuC xz) 34) := ⟨_, rfl⟩
                    have bY : Below w8.heap.size w8 YZ := by rw [hY]; exact (Below.refl _ _).alloc (Nat.le_refl _) _
                    obtain ⟨OZ, hO⟩ : ∃ O, O = w8.heap.size := ⟨_, rfl⟩
                    have HNZ : Hid (TupAt YZ OZ xz) := by show TupAt YZ OZ xz; rw [hY, hO]; exact tup_new w8 xz
                    have HLZ : Hid (Below w8.heap.size w8 YZ) := bY
                    have HEZ : Hid (w8.alloc (.cells (tuC xz) 34) = YZ) := hY.symm
                    have HOZ : Hid (w8.heap.size = OZ) := hO.symm
                    clear hY bY hO
                    go_upto_region 21 with (first | (refine wpList_alloc_tup rfl rfl ?_; rw [HEZ.out, HOZ.out]) | (refine wpList_store_tup (.tmp 14) (.tmp 92) rfl rfl OZ xz z rfl rfl HNZ.out rfl ?_; intro w9 h9 k9))
                    have b9 : Below w8.heap.size w8 w9 := HLZ.out.trans (k9.below (fun q hq => by have hq' : q = OZ := hq; have := HOZ.out; omega) HLZ.out.size)
                    have H9 : Hid ((FT w t M N cc E8 w9 ∧ TupAt w9 O8 y3 ∧ TL w9 N8 gv5 (G ++ [s.x]) ∧ (∀ a : FV, a ∈ E8 → OkB cc a.n) ∧ Gn (G ++ [s.x]) E8 ∧ (y3).Wf ∧ (∀ x : TU, x ∈ (G ++ [s.x]) → x.Wf)) ∧ StpAt w9 OS s ∧ N8 ≤ w9.heap.size ∧ TupAt w9 OZ z) := ⟨⟨H8.out.1.1.below b9, H8.out.1.2.1.below b9, H8.out.1.2.2.1.below b9, H8.out.1.2.2.2⟩, H8.out.2.1.below b9, Nat.le_trans H8.out.2.2 b9.size, h9⟩
                    clear h9 k9 b9 H8 HNZ HLZ HEZ HOZ
                    by_cases her : er = 0
                    · subst her
                      cases hb : eqP z s.x.rev with
                      | true =>
                        have HBE : Hid (eqP z s.x.rev = true) := hb
                        clear hb
                        refine MixH.start (fun A => TupAt A OZ z ∧ StpAt A OS s) (by kernel_rfl) ?_
                        obtain ⟨wA, hwA⟩ : ∃ wA, wA = w9.drew := ⟨_, rfl⟩
                        have bdr : Below w9.heap.size w9 wA := by rw [hwA]; exact (Below.refl _ _).drew
                        have HA : Hid ((FT w t M N cc E8 wA ∧ TupAt wA O8 y3 ∧ TL wA N8 gv5 (G ++ [s.x]) ∧ (∀ a : FV, a ∈ E8 → OkB cc a.n) ∧ Gn (G ++ [s.x]) E8 ∧ (y3).Wf ∧ (∀ x : TU, x ∈ (G ++ [s.x]) → x.Wf)) ∧ N8 ≤ wA.heap.size) := ⟨⟨H9.out.1.1.below bdr, H9.out.1.2.1.below bdr, H9.out.1.2.2.1.below bdr, H9.out.1.2.2.2⟩, Nat.le_trans H9.out.2.2.1 bdr.size⟩
                        have hS : TupAt wA OZ z ∧ StpAt wA OS s := ⟨H9.out.2.2.2.below bdr, H9.out.2.1.below bdr⟩
                        rw [← hwA]
                        clear hwA bdr H9
                        refine MixH.takes [true, true, true, false, true] 17 (by kernel_rfl) (by kernel_rfl) (by decide) (by kernel_rfl) hS (fun K hK => ?_)
                        simp only [Mix.pick]
                        repeat (go_big_quiet_step (fail))
                        refine wpQuiet_nil (hK _ ?_)
                        clear hK K
                        refine MixH.take 16 3 _ (.agg (tuC z)) rfl (by kernel_rfl) (by kernel_rfl) (by kernel_rfl) (by kernel_rfl) (yields_tup (.tmp 14) rfl OZ 0 z rfl rfl (fun A hA => hA.1.all)) hS (fun a' ha => ?_)
                        simp only [Act.put, List.setIfInBounds_toArray, List.set_cons_succ, List.set_cons_zero] at ha
                        subst ha
                        refine MixH.take 15 5 _ (.agg (tuC s.x)) rfl (by kernel_rfl) (by kernel_rfl) (by kernel_rfl) (by kernel_rfl) (yields_tup (.tmp 98) rfl OS 2 s.x rfl rfl (fun A hA => hA.2.x)) hS (fun a' ha => ?_)
                        simp only [Act.put, List.setIfInBounds_toArray, List.set_cons_succ, List.set_cons_zero] at ha
                        subst ha
                        refine MixH.one [false, false, false, false, false, false, true] 14 6 _ rfl rfl (by kernel_rfl) (by kernel_rfl) (fun K hK => ?_)
                        simp only [Mix.pick]
                        go_wp2_with fail
                        refine Calls.mono (reverse_any s.x wA) ?_
                        rintro e11 w11 ⟨rfl, b11⟩
                        replace hS : TupAt w11 OZ z ∧ StpAt w11 OS s := ⟨hS.1.below b11, hS.2.below b11⟩
                        have HB : Hid ((FT w t M N cc E8 w11 ∧ TupAt w11 O8 y3 ∧ TL w11 N8 gv5 (G ++ [s.x]) ∧ (∀ a : FV, a ∈ E8 → OkB cc a.n) ∧ Gn (G ++ [s.x]) E8 ∧ (y3).Wf ∧ (∀ x : TU, x ∈ (G ++ [s.x]) → x.Wf)) ∧ N8 ≤ w11.heap.size) := ⟨⟨HA.out.1.1.below b11, HA.out.1.2.1.below b11, HA.out.1.2.2.1.below b11, HA.out.1.2.2.2⟩, Nat.le_trans HA.out.2 b11.size⟩
                        clear b11 HA
                        go_wp2_with fail
                        refine ⟨rfl, hK _ _ hS ?_⟩
                        clear hK K
                        refine MixH.take 13 7 _ (.bool false) rfl (by kernel_rfl) (by kernel_rfl) (by kernel_rfl) (by kernel_rfl) (yields_neq_tu (.tmp 97) (.tmp 100) rfl z s.x.rev rfl rfl false (by rw [HBE.out]; rfl) rfl) hS (fun a' ha => ?_)
                        simp only [Act.put, List.setIfInBounds_toArray, List.set_cons_succ, List.set_cons_zero] at ha
                        subst ha
                        refine MixH.takes [false, false, false, false, false, false, false, false, true, true, true, true] 9 (by kernel_rfl) (by kernel_rfl) (by decide) (by kernel_rfl) hS (fun K hK => ?_)
                        simp only [Mix.pick]
                        repeat (go_big_quiet_step (fail))
                        refine wpQuiet_nil (hK _ ?_)
                        clear hK K
                        refine MixH.take 8 12 _ (undef) rfl (by kernel_rfl) (by kernel_rfl) (by kernel_rfl) (by kernel_rfl) (.inr ⟨rfl, rfl⟩) hS (fun a' ha => ?_)
                        simp only [Act.put, List.setIfInBounds_toArray, List.set_cons_succ, List.set_cons_zero] at ha
                        subst ha
                        refine MixH.takes [false, false, false, false, false, false, false, false, false, false, false, false, false, true, true, true] 5 (by kernel_rfl) (by kernel_rfl) (by decide) (by kernel_rfl) hS (fun K hK => ?_)
                        simp only [Mix.pick]
                        repeat (go_big_quiet_step (fail))
                        refine wpQuiet_nil (hK _ ?_)
                        clear hK K
                        refine MixH.take 4 16 _ (undef) rfl (by kernel_rfl) (by kernel_rfl) (by kernel_rfl) (by kernel_rfl) (.inr ⟨rfl, rfl⟩) hS (fun a' ha => ?_)
                        simp only [Act.put, List.setIfInBounds_toArray, List.set_cons_succ, List.set_cons_zero] at ha
                        subst ha
                        refine MixH.takes [false, false, false, false, false, false, false, false, false, false, false, false, false, false, false, false, false, true, true, true, true] 0 (by kernel_rfl) (by kernel_rfl) (by decide) (by kernel_rfl) hS (fun K hK => ?_)
                        simp only [Mix.pick]
                        repeat (go_big_quiet_step (fail))
                        refine wpQuiet_nil (hK _ ?_)
                        clear hK K
                        refine MixH.done (by kernel_rfl) ?_
                        clear hS
                        have HZ : Hid (FT w t M N cc E8 w11 ∧ TupAt w11 O8 y3 ∧ TL w11 N8 gv5 (G ++ [s.x]) ∧ (∀ a : FV, a ∈ E8 → OkB cc a.n) ∧ Gn (G ++ [s.x]) E8 ∧ (y3).Wf ∧ (∀ x : TU, x ∈ (G ++ [s.x]) → x.Wf)) := HB.out.1
                        have HNZ : Hid ((G ++ [s.x]).length ≤ i + 1 ∧ (G ++ [s.x]).length ≤ 400 ∧ N8 ≤ w11.heap.size) := ⟨HLG.out.1, HLG.out.2, HB.out.2⟩
                        go_wp2_with fail
                        go_roundw
                        case rel => exact ⟨i + 1, E8, (G ++ [s.x]), y3, by first | rfl | go_num, by have := HLT.out; omega, HNZ.out, HZ.out⟩
                        case measure => have := HLT.out; simp [intOf]; omega
                      | false =>
                        have HBE : Hid (eqP z s.x.rev = false) := hb
                        clear hb
                        refine MixH.start (fun A => TupAt A OZ z ∧ StpAt A OS s) (by kernel_rfl) ?_
                        obtain ⟨wA, hwA⟩ : ∃ wA, wA = w9.drew := ⟨_, rfl⟩
                        have bdr : Below w9.heap.size w9 wA := by rw [hwA]; exact (Below.refl _ _).drew
                        have HA : Hid ((FT w t M N cc E8 wA ∧ TupAt wA O8 y3 ∧ TL wA N8 gv5 (G ++ [s.x]) ∧ (∀ a : FV, a ∈ E8 → OkB cc a.n) ∧ Gn (G ++ [s.x]) E8 ∧ (y3).Wf ∧ (∀ x : TU, x ∈ (G ++ [s.x]) → x.Wf)) ∧ N8 ≤ wA.heap.size) := ⟨⟨H9.out.1.1.below bdr, H9.out.1.2.1.below bdr, H9.out.1.2.2.1.below bdr, H9.out.1.2.2.2⟩, Nat.le_trans H9.out.2.2.1 bdr.size⟩
                        have hS : TupAt wA OZ z ∧ StpAt wA OS s := ⟨H9.out.2.2.2.below bdr, H9.out.2.1.below bdr⟩
                        rw [← hwA]
                        clear hwA bdr H9
                        refine MixH.takes [true, true, true, false, true] 17 (by kernel_rfl) (by kernel_rfl) (by decide) (by kernel_rfl) hS (fun K hK => ?_)
                        simp only [Mix.pick]
                        repeat (go_big_quiet_step (fail))
                        refine wpQuiet_nil (hK _ ?_)
                        clear hK K
                        refine MixH.take 16 3 _ (.agg (tuC z)) rfl (by kernel_rfl) (by kernel_rfl) (by kernel_rfl) (by kernel_rfl) (yields_tup (.tmp 14) rfl OZ 0 z rfl rfl (fun A hA => hA.1.all)) hS (fun a' ha => ?_)
                        simp only [Act.put, List.setIfInBounds_toArray, List.set_cons_succ, List.set_cons_zero] at ha
                        subst ha
                        refine MixH.take 15 5 _ (.agg (tuC s.x)) rfl (by kernel_rfl) (by kernel_rfl) (by kernel_rfl) (by kernel_rfl) (yields_tup (.tmp 98) rfl OS 2 s.x rfl rfl (fun A hA => hA.2.x)) hS (fun a' ha => ?_)
                        simp only [Act.put, List.setIfInBounds_toArray, List.set_cons_succ, List.set_cons_zero] at ha
                        subst ha
                        refine MixH.one [false, false, false, false, false, false, true] 14 6 _ rfl rfl (by kernel_rfl) (by kernel_rfl) (fun K hK => ?_)
                        simp only [Mix.pick]
                        go_wp2_with fail
                        refine Calls.mono (reverse_any s.x wA) ?_
                        rintro e11 w11 ⟨rfl, b11⟩
                        replace hS : TupAt w11 OZ z ∧ StpAt w11 OS s := ⟨hS.1.below b11, hS.2.below b11⟩
                        have HB : Hid ((FT w t M N cc E8 w11 ∧ TupAt w11 O8 y3 ∧ TL w11 N8 gv5 (G ++ [s.x]) ∧ (∀ a : FV, a ∈ E8 → OkB cc a.n) ∧ Gn (G ++ [s.x]) E8 ∧ (y3).Wf ∧ (∀ x : TU, x ∈ (G ++ [s.x]) → x.Wf)) ∧ N8 ≤ w11.heap.size) := ⟨⟨HA.out.1.1.below b11, HA.out.1.2.1.below b11, HA.out.1.2.2.1.below b11, HA.out.1.2.2.2⟩, Nat.le_trans HA.out.2 b11.size⟩
                        clear b11 HA
                        go_wp2_with fail
                        refine ⟨rfl, hK _ _ hS ?_⟩
                        clear hK K
                        refine MixH.take 13 7 _ (.bool true) rfl (by kernel_rfl) (by kernel_rfl) (by kernel_rfl) (by kernel_rfl) (yields_neq_tu (.tmp 97) (.tmp 100) rfl z s.x.rev rfl rfl true (by rw [HBE.out]; rfl) rfl) hS (fun a' ha => ?_)
                        simp only [Act.put, List.setIfInBounds_toArray, List.set_cons_succ, List.set_cons_zero] at ha
                        subst ha
                        refine MixH.takes [false, false, false, false, false, false, false, false, true, true, true, true] 9 (by kernel_rfl) (by kernel_rfl) (by decide) (by kernel_rfl) hS (fun K hK => ?_)
                        simp only [Mix.pick]
                        repeat (go_big_quiet_step (fail))
                        refine wpQuiet_nil (hK _ ?_)
                        clear hK K
                        refine MixH.take 8 12 _ (.int .i64 pr) rfl (by kernel_rfl) (by kernel_rfl) (by kernel_rfl) (by kernel_rfl) (yields_int (.tmp 105) rfl ⟨OS, 2, none⟩ (.int .i64 pr) rfl rfl (fun A hA => (HCE.out A hA.2).2.2)) hS (fun a' ha => ?_)
                        simp only [Act.put, List.setIfInBounds_toArray, List.set_cons_succ, List.set_cons_zero] at ha
                        subst ha
                        refine MixH.takes [false, false, false, false, false, false, false, false, false, false, false, false, false, true, true, true] 5 (by kernel_rfl) (by kernel_rfl) (by decide) (by kernel_rfl) hS (fun K hK => ?_)
                        simp only [Mix.pick]
                        repeat (go_big_quiet_step (fail))
                        refine wpQuiet_nil (hK _ ?_)
                        clear hK K
                        refine MixH.take 4 16 _ (.int .i64 fl) rfl (by kernel_rfl) (by kernel_rfl) (by kernel_rfl) (by kernel_rfl) (yields_int (.tmp 109) rfl ⟨OS, 39, none⟩ (.int .i64 fl) rfl rfl (fun A hA => (HCE.out A hA.2).2.1)) hS (fun a' ha => ?_)
                        simp only [Act.put, List.setIfInBounds_toArray, List.set_cons_succ, List.set_cons_zero] at ha
                        subst ha
                        refine MixH.takes [false, false, false, false, false, false, false, false, false, false, false, false, false, false, false, false, false, true, true, true, true] 0 (by kernel_rfl) (by kernel_rfl) (by decide) (by kernel_rfl) hS (fun K hK => ?_)
                        simp only [Mix.pick]
                        repeat (go_big_quiet_step (fail))
                        refine wpQuiet_nil (hK _ ?_)
                        clear hK K
                        refine MixH.done (by kernel_rfl) ?_
                        clear hS
                        have HZ : Hid (FT w t M N cc E8 w11 ∧ TupAt w11 O8 y3 ∧ TL w11 N8 gv5 (G ++ [s.x]) ∧ (∀ a : FV, a ∈ E8 → OkB cc a.n) ∧ Gn (G ++ [s.x]) E8 ∧ (y3).Wf ∧ (∀ x : TU, x ∈ (G ++ [s.x]) → x.Wf)) := HB.out.1
                        have HNZ : Hid ((G ++ [s.x]).length ≤ i + 1 ∧ (G ++ [s.x]).length ≤ 400 ∧ N8 ≤ w11.heap.size) := ⟨HLG.out.1, HLG.out.2, HB.out.2⟩
                        go_wp2_with fail
                        go_roundw
                        case rel => exact ⟨i + 1, E8, (G ++ [s.x]), y3, by first | rfl | go_num, by have := HLT.out; omega, HNZ.out, HZ.out⟩
                        case measure => have := HLT.out; simp [intOf]; omega
                    · have zr : (er != 0) = true := by simpa using her
                      clear her
                      refine MixH.start (fun A => TupAt A OZ z ∧ StpAt A OS s) (by kernel_rfl) ?_
                      obtain ⟨wA, hwA⟩ : ∃ wA, wA = w9.drew := ⟨_, rfl⟩
                      have bdr : Below w9.heap.size w9 wA := by rw [hwA]; exact (Below.refl _ _).drew
                      have HA : Hid ((FT w t M N cc E8 wA ∧ TupAt wA O8 y3 ∧ TL wA N8 gv5 (G ++ [s.x]) ∧ (∀ a : FV, a ∈ E8 → OkB cc a.n) ∧ Gn (G ++ [s.x]) E8 ∧ (y3).Wf ∧ (∀ x : TU, x ∈ (G ++ [s.x]) → x.Wf)) ∧ N8 ≤ wA.heap.size) := ⟨⟨H9.out.1.1.below bdr, H9.out.1.2.1.below bdr, H9.out.1.2.2.1.below bdr, H9.out.1.2.2.2⟩, Nat.le_trans H9.out.2.2.1 bdr.size⟩
                      have hS : TupAt wA OZ z ∧ StpAt wA OS s := ⟨H9.out.2.2.2.below bdr, H9.out.2.1.below bdr⟩
                      rw [← hwA]
                      clear hwA bdr H9
                      refine MixH.takes [true, true, true, false, true] 17 (by kernel_rfl) (by kernel_rfl) (by decide) (by kernel_rfl) hS (fun K hK => ?_)
                      simp only [Mix.pick]
                      repeat (go_big_quiet_step (fail))
                      refine wpQuiet_nil (hK _ ?_)
                      clear hK K
                      refine MixH.take 16 3 _ (undef) rfl (by kernel_rfl) (by kernel_rfl) (by kernel_rfl) (by kernel_rfl) (.inr ⟨rfl, rfl⟩) hS (fun a' ha => ?_)
                      simp only [Act.put, List.setIfInBounds_toArray, List.set_cons_succ, List.set_cons_zero] at ha
                      subst ha
                      refine MixH.take 15 5 _ (undef) rfl (by kernel_rfl) (by kernel_rfl) (by kernel_rfl) (by kernel_rfl) (.inr ⟨rfl, rfl⟩) hS (fun a' ha => ?_)
                      simp only [Act.put, List.setIfInBounds_toArray, List.set_cons_succ, List.set_cons_zero] at ha
                      subst ha
                      refine MixH.take 14 6 _ (undef) rfl (by kernel_rfl) (by kernel_rfl) (by kernel_rfl) (by kernel_rfl) (.inr ⟨rfl, rfl⟩) hS (fun a' ha => ?_)
                      simp only [Act.put, List.setIfInBounds_toArray, List.set_cons_succ, List.set_cons_zero] at ha
                      subst ha
                      refine MixH.takes [false, false, false, false, false, false, false, true, true, true, true, true] 9 (by kernel_rfl) (by kernel_rfl) (by decide) (by kernel_rfl) hS (fun K hK => ?_)
                      simp only [Mix.pick]
                      repeat (go_big_quiet_step (fail))
                      refine wpQuiet_nil (hK _ ?_)
                      clear hK K
                      refine MixH.take 8 12 _ (.int .i64 pr) rfl (by kernel_rfl) (by kernel_rfl) (by kernel_rfl) (by kernel_rfl) (yields_int (.tmp 105) rfl ⟨OS, 2, none⟩ (.int .i64 pr) rfl rfl (fun A hA => (HCE.out A hA.2).2.2)) hS (fun a' ha => ?_)
                      simp only [Act.put, List.setIfInBounds_toArray, List.set_cons_succ, List.set_cons_zero] at ha
                      subst ha
                      refine MixH.takes [false, false, false, false, false, false, false, false, false, false, false, false, false, true, true, true] 5 (by kernel_rfl) (by kernel_rfl) (by decide) (by kernel_rfl) hS (fun K hK => ?_)
                      simp only [Mix.pick]
                      repeat (go_big_quiet_step (fail))
                      refine wpQuiet_nil (hK _ ?_)
                      clear hK K
                      refine MixH.take 4 16 _ (.int .i64 fl) rfl (by kernel_rfl) (by kernel_rfl) (by kernel_rfl) (by kernel_rfl) (yields_int (.tmp 109) rfl ⟨OS, 39, none⟩ (.int .i64 fl) rfl rfl (fun A hA => (HCE.out A hA.2).2.1)) hS (fun a' ha => ?_)
                      simp only [Act.put, List.setIfInBounds_toArray, List.set_cons_succ, List.set_cons_zero] at ha
                      subst ha
                      refine MixH.takes [false, false, false, false, false, false, false, false, false, false, false, false, false, false, false, false, false, true, true, true, true] 0 (by kernel_rfl) (by kernel_rfl) (by decide) (by kernel_rfl) hS (fun K hK => ?_)
                      simp only [Mix.pick]
                      repeat (go_big_quiet_step (fail))
                      refine wpQuiet_nil (hK _ ?_)
                      clear hK K
                      refine MixH.done (by kernel_rfl) ?_
                      clear hS
                      have HZ : Hid (FT w t M N cc E8 wA ∧ TupAt wA O8 y3 ∧ TL wA N8 gv5 (G ++ [s.x]) ∧ (∀ a : FV, a ∈ E8 → OkB cc a.n) ∧ Gn (G ++ [s.x]) E8 ∧ (y3).Wf ∧ (∀ x : TU, x ∈ (G ++ [s.x]) → x.Wf)) := HA.out.1
                      have HNZ : Hid ((G ++ [s.x]).length ≤ i + 1 ∧ (G ++ [s.x]).length ≤ 400 ∧ N8 ≤ wA.heap.size) := ⟨HLG.out.1, HLG.out.2, HA.out.2⟩
                      go_wp2_with fail
                      go_roundw
                      case rel => exact ⟨i + 1, E8, (G ++ [s.x]), y3, by first | rfl | go_num, by have := HLT.out; omega, HNZ.out, HZ.out⟩
                      case measure => have := HLT.out; simp [intOf]; omega
              · have t7 : (m7 != 2) = true := by simpa using h7
                have HZ : Hid (FT w t M N cc E3 w6 ∧ TupAt w6 O8 y3 ∧ TL w6 N8 gv5 (G ++ [s.x]) ∧ (∀ a : FV, a ∈ E3 → OkB cc a.n) ∧ Gn (G ++ [s.x]) E3 ∧ (y3).Wf ∧ (∀ x : TU, x ∈ (G ++ [s.x]) → x.Wf)) := H6.out.1
                have HNZ : Hid ((G ++ [s.x]).length ≤ i + 1 ∧ (G ++ [s.x]).length ≤ 400 ∧ N8 ≤ w6.heap.size) := ⟨HLG.out.1, HLG.out.2, H6.out.2.2.2⟩
                clear h6 h7
                go_wp2_with fail
                go_roundw
                case rel => exact ⟨i + 1, E3, (G ++ [s.x]), y3, by first | rfl | go_num, by have := HLT.out; omega, HNZ.out, HZ.out⟩
                case measure => have := HLT.out; simp [intOf]; omega
            · have s6 : (pr == 6) = false := by simpa using h6
              have HP : Hid (s.x.pr ≠ 6 ∨ sgN s.x.pr fl = 1) := .inl (by rw [HKD.out.2.2]; exact h6)
              clear h6
              as_aux_lemma =>
                go_upto_region 20 with fail
                clear d2 d39
                have QV : Hid _ := reverse_any y3 w6
                go_wp2_with (first | (refine wpList_load_tup (.tmp 12) rfl OY y3 rfl H6.out.2.2.1 rfl ?_))
                refine Calls.mono QV.out ?_
                rintro e7 w7 ⟨rfl, b7⟩
                have H7 : Hid ((FT w t M N cc E3 w7 ∧ TupAt w7 O8 y3 ∧ TL w7 N8 gv5 (G ++ [s.x]) ∧ (∀ a : FV, a ∈ E3 → OkB cc a.n) ∧ Gn (G ++ [s.x]) E3 ∧ (y3).Wf ∧ (∀ x : TU, x ∈ (G ++ [s.x]) → x.Wf)) ∧ StpAt w7 OS s ∧ N8 ≤ w7.heap.size) := ⟨⟨H6.out.1.1.below b7, H6.out.1.2.1.below b7, H6.out.1.2.2.1.below b7, H6.out.1.2.2.2⟩, H6.out.2.1.below b7, Nat.le_trans H6.out.2.2.2 b7.size⟩
                have QI : Hid _ := H7.out.1.1.inn HG.out.1 y3.rev HR.out.2.1.rev 18
                clear b7 QV H6
                go_wp2_with fail
                refine Calls.mono QI.out ?_
                rintro e8 w8 ⟨er, z, E8, rfl, hI, hF, k8⟩
                have kt8 : Kt w7 w8 := Kt.ch H7.out.1.1.ta k8
                have H8 : Hid ((FT w t M N cc E8 w8 ∧ TupAt w8 O8 y3 ∧ TL w8 N8 gv5 (G ++ [s.x]) ∧ (∀ a : FV, a ∈ E8 → OkB cc a.n) ∧ Gn (G ++ [s.x]) E8 ∧ (y3).Wf ∧ (∀ x : TU, x ∈ (G ++ [s.x]) → x.Wf)) ∧ StpAt w8 OS s ∧ N8 ≤ w8.heap.size) := ⟨⟨hF, H7.out.1.2.1.kt kt8, H7.out.1.2.2.1.kt kt8, OkB.inn H7.out.1.2.2.2.1 hI, (H7.out.1.2.2.2.2.1.inn hI).1, H7.out.1.2.2.2.2.2⟩, H7.out.2.1.kt kt8, Nat.le_trans H7.out.2.2 kt8.size⟩
                have HOI : Hid (er = 0 ∧ eqP z s.x.rev = true) := out_in H1.out.1.ok HV.out H7.out.1.1.ta.dj H7.out.1.1.ta.djq H1.out.1.st H7.out.1.2.2.2.1 HR.out.1 HP.out hI
                obtain ⟨her, _⟩ := HOI.out
                subst her
                clear hI hF k8 kt8 QI H7
                obtain ⟨YZ, hY⟩ : ∃ Y, Y = w8.alloc (.cells (tuC xz) 34) := ⟨_, rfl⟩
                have bY : Below w8.heap.size w8 YZ := by rw [hY]; exact (Below.refl _ _).alloc (Nat.le_refl _) _
                obtain ⟨OZ, hO⟩ : ∃ O, O = w8.heap.size := ⟨_, rfl⟩
                have HNZ : Hid (TupAt YZ OZ xz) := by show TupAt YZ OZ xz; rw [hY, hO]; exact tup_new w8 xz
                have HLZ : Hid (Below w8.heap.size w8 YZ) := bY
                have HEZ : Hid (w8.alloc (.cells (tuC xz) 34) = YZ) := hY.symm
                have HOZ : Hid (w8.heap.size = OZ) := hO.symm
                clear hY bY hO
                go_upto_region 21 with (first | (refine wpList_alloc_tup rfl rfl ?_; rw [HEZ.out, HOZ.out]) | (refine wpList_store_tup (.tmp 14) (.tmp 92) rfl rfl OZ xz z rfl rfl HNZ.out rfl ?_; intro w9 h9 k9))
                have b9 : Below w8.heap.size w8 w9 := HLZ.out.trans (k9.below (fun q hq => by have hq' : q = OZ := hq; have := HOZ.out; omega) HLZ.out.size)
                have H9 : Hid ((FT w t M N cc E8 w9 ∧ TupAt w9 O8 y3 ∧ TL w9 N8 gv5 (G ++ [s.x]) ∧ (∀ a : FV, a ∈ E8 → OkB cc a.n) ∧ Gn (G ++ [s.x]) E8 ∧ (y3).Wf ∧ (∀ x : TU, x ∈ (G ++ [s.x]) → x.Wf)) ∧ StpAt w9 OS s ∧ N8 ≤ w9.heap.size ∧ TupAt w9 OZ z) := ⟨⟨H8.out.1.1.below b9, H8.out.1.2.1.below b9, H8.out.1.2.2.1.below b9, H8.out.1.2.2.2⟩, H8.out.2.1.below b9, Nat.le_trans H8.out.2.2 b9.size, h9⟩
                clear h9 k9 b9 H8 HNZ HLZ HEZ HOZ
                refine MixH.start (fun A => TupAt A OZ z ∧ StpAt A OS s) (by kernel_rfl) ?_
                obtain ⟨wA, hwA⟩ : ∃ wA, wA = w9.drew := ⟨_, rfl⟩
                have bdr : Below w9.heap.size w9 wA := by rw [hwA]; exact (Below.refl _ _).drew
                have HA : Hid ((FT w t M N cc E8 wA ∧ TupAt wA O8 y3 ∧ TL wA N8 gv5 (G ++ [s.x]) ∧ (∀ a : FV, a ∈ E8 → OkB cc a.n) ∧ Gn (G ++ [s.x]) E8 ∧ (y3).Wf ∧ (∀ x : TU, x ∈ (G ++ [s.x]) → x.Wf)) ∧ N8 ≤ wA.heap.size) := ⟨⟨H9.out.1.1.below bdr, H9.out.1.2.1.below bdr, H9.out.1.2.2.1.below bdr, H9.out.1.2.2.2⟩, Nat.le_trans H9.out.2.2.1 bdr.size⟩
                have hS : TupAt wA OZ z ∧ StpAt wA OS s := ⟨H9.out.2.2.2.below bdr, H9.out.2.1.below bdr⟩
                rw [← hwA]
                clear hwA bdr H9
                refine MixH.takes [true, true, true, false, true] 17 (by kernel_rfl) (by kernel_rfl) (by decide) (by kernel_rfl) hS (fun K hK => ?_)
                simp only [Mix.pick]
                repeat (go_big_quiet_step (fail))
                refine wpQuiet_nil (hK _ ?_)
                clear hK K
                refine MixH.take 16 3 _ (.agg (tuC z)) rfl (by kernel_rfl) (by kernel_rfl) (by kernel_rfl) (by kernel_rfl) (yields_tup (.tmp 14) rfl OZ 0 z rfl rfl (fun A hA => hA.1.all)) hS (fun a' ha => ?_)
                simp only [Act.put, List.setIfInBounds_toArray, List.set_cons_succ, List.set_cons_zero] at ha
                subst ha
                refine MixH.take 15 5 _ (.agg (tuC s.x)) rfl (by kernel_rfl) (by kernel_rfl) (by kernel_rfl) (by kernel_rfl) (yields_tup (.tmp 98) rfl OS 2 s.x rfl rfl (fun A hA => hA.2.x)) hS (fun a' ha => ?_)
                simp only [Act.put, List.setIfInBounds_toArray, List.set_cons_succ, List.set_cons_zero] at ha
                subst ha
                refine MixH.one [false, false, false, false, false, false, true] 14 6 _ rfl rfl (by kernel_rfl) (by kernel_rfl) (fun K hK => ?_)
                simp only [Mix.pick]
                go_wp2_with fail
                refine Calls.mono (reverse_any s.x wA) ?_
                rintro e11 w11 ⟨rfl, b11⟩
                replace hS : TupAt w11 OZ z ∧ StpAt w11 OS s := ⟨hS.1.below b11, hS.2.below b11⟩
                have HB : Hid ((FT w t M N cc E8 w11 ∧ TupAt w11 O8 y3 ∧ TL w11 N8 gv5 (G ++ [s.x]) ∧ (∀ a : FV, a ∈ E8 → OkB cc a.n) ∧ Gn (G ++ [s.x]) E8 ∧ (y3).Wf ∧ (∀ x : TU, x ∈ (G ++ [s.x]) → x.Wf)) ∧ N8 ≤ w11.heap.size) := ⟨⟨HA.out.1.1.below b11, HA.out.1.2.1.below b11, HA.out.1.2.2.1.below b11, HA.out.1.2.2.2⟩, Nat.le_trans HA.out.2 b11.size⟩
                clear b11 HA
                go_wp2_with fail
                refine ⟨rfl, hK _ _ hS ?_⟩
                clear hK K
                refine MixH.take 13 7 _ (.bool false) rfl (by kernel_rfl) (by kernel_rfl) (by kernel_rfl) (by kernel_rfl) (yields_neq_tu (.tmp 97) (.tmp 100) rfl z s.x.rev rfl rfl false (by rw [HOI.out.2]; rfl) rfl) hS (fun a' ha => ?_)
                simp only [Act.put, List.setIfInBounds_toArray, List.set_cons_succ, List.set_cons_zero] at ha
                subst ha
                refine MixH.takes [false, false, false, false, false, false, false, false, true, true, true, true] 9 (by kernel_rfl) (by kernel_rfl) (by decide) (by kernel_rfl) hS (fun K hK => ?_)
                simp only [Mix.pick]
                repeat (go_big_quiet_step (fail))
                refine wpQuiet_nil (hK _ ?_)
                clear hK K
                refine MixH.take 8 12 _ (undef) rfl (by kernel_rfl) (by kernel_rfl) (by kernel_rfl) (by kernel_rfl) (.inr ⟨rfl, rfl⟩) hS (fun a' ha => ?_)
                simp only [Act.put, List.setIfInBounds_toArray, List.set_cons_succ, List.set_cons_zero] at ha
                subst ha
                refine MixH.takes [false, false, false, false, false, false, false, false, false, false, false, false, false, true, true, true] 5 (by kernel_rfl) (by kernel_rfl) (by decide) (by kernel_rfl) hS (fun K hK => ?_)
                simp only [Mix.pick]
                repeat (go_big_quiet_step (fail))
                refine wpQuiet_nil (hK _ ?_)
                clear hK K
                refine MixH.take 4 16 _ (undef) rfl (by kernel_rfl) (by kernel_rfl) (by kernel_rfl) (by kernel_rfl) (.inr ⟨rfl, rfl⟩) hS (fun a' ha => ?_)
                simp only [Act.put, List.setIfInBounds_toArray, List.set_cons_succ, List.set_cons_zero] at ha
                subst ha
                refine MixH.takes [false, false, false, false, false, false, false, false, false, false, false, false, false, false, false, false, false, true, true, true, true] 0 (by kernel_rfl) (by kernel_rfl) (by decide) (by kernel_rfl) hS (fun K hK => ?_)
                simp only [Mix.pick]
                repeat (go_big_quiet_step (fail))
                refine wpQuiet_nil (hK _ ?_)
                clear hK K
                refine MixH.done (by kernel_rfl) ?_
                clear hS
                have HZ : Hid (FT w t M N cc E8 w11 ∧ TupAt w11 O8 y3 ∧ TL w11 N8 gv5 (G ++ [s.x]) ∧ (∀ a : FV, a ∈ E8 → OkB cc a.n) ∧ Gn (G ++ [s.x]) E8 ∧ (y3).Wf ∧ (∀ x : TU, x ∈ (G ++ [s.x]) → x.Wf)) := HB.out.1
                have HNZ : Hid ((G ++ [s.x]).length ≤ i + 1 ∧ (G ++ [s.x]).length ≤ 400 ∧ N8 ≤ w11.heap.size) := ⟨HLG.out.1, HLG.out.2, HB.out.2⟩
                go_wp2_with fail
                go_roundw
                case rel => exact ⟨i + 1, E8, (G ++ [s.x]), y3, by first | rfl | go_num, by have := HLT.out; omega, HNZ.out, HZ.out⟩
                case measure => have := HLT.out; simp [intOf]; omega
        · have q1 : (kd == 1) = false := by simpa using h1
          by_cases h2 : kd = 2
          · have q2 : (kd == 2) = true := by simpa using h2
            have q3 : (kd == 3) = false := by rw [h2]; rfl
            clear h1 h2
            as_aux_lemma =>
              go_upto_region 25 with fail
              clear c0
              obtain ⟨YX, hY⟩ : ∃ Y, Y = w1.alloc (.cells (tuC xz) 34) := ⟨_, rfl⟩
              have bY : Below w1.heap.size w1 YX := by rw [hY]; exact (Below.refl _ _).alloc (Nat.le_refl _) _
              obtain ⟨OX, hO⟩ : ∃ O, O = w1.heap.size := ⟨_, rfl⟩
              have HNV : Hid (TupAt YX OX xz) := by show TupAt YX OX xz; rw [hY, hO]; exact tup_new w1 xz
              have HLV : Hid (Below w1.heap.size w1 YX) := bY
              have HEV : Hid (w1.alloc (.cells (tuC xz) 34) = YX) := hY.symm
              have HOV : Hid (w1.heap.size = OX) := hO.symm
              clear hY bY hO
              go_upto_region 26 with (first | (refine wpList_mid_tup (.tmp 118) rfl OS 2 s.x rfl HSB.out.x rfl ?_) | (refine wpList_alloc_tup rfl rfl ?_; rw [HEV.out, HOV.out]) | (refine wpList_store_tup (.tmp 15) (.tmp 119) rfl rfl OX xz s.x rfl rfl HNV.out rfl ?_; intro w3 h3 k3))
              have b3 : Below w1.heap.size w1 w3 := HLV.out.trans (k3.below (fun q hq => by have hq' : q = OX := hq; have := HOV.out; omega) HLV.out.size)
              have H3 : Hid ((FT w t M N cc E w3 ∧ TupAt w3 O8 y ∧ TL w3 N8 (.slice ga nG gc) G ∧ (∀ a : FV, a ∈ E → OkB cc a.n) ∧ Gn G E ∧ (y).Wf ∧ (∀ x : TU, x ∈ G → x.Wf)) ∧ StpAt w3 OS s ∧ N8 ≤ w3.heap.size ∧ TupAt w3 OX s.x ∧ w1.heap.size = OX) := ⟨⟨H1.out.1.below b3, H1.out.2.1.below b3, H1.out.2.2.1.below b3, H1.out.2.2.2⟩, HSB.out.below b3, Nat.le_trans HN1.out.2.2 b3.size, h3, HOV.out⟩
              have c0 : w3.cell? ⟨OS, 0, none⟩ = some (.int .i64 kd) := (HCE.out _ H3.out.2.1).1
              clear h3 k3 b3 HNV HLV HEV HOV
              obtain ⟨X, hX⟩ : ∃ X, X = s.x := ⟨_, rfl⟩
              obtain ⟨w5, hw5⟩ : ∃ w5, w5 = w3 := ⟨_, rfl⟩
              go_upto_region 28 with fail
              clear c0
              rw [← hw5]
              have H5 : Hid ((FT w t M N cc E w5 ∧ TupAt w5 O8 y ∧ TL w5 N8 (.slice ga nG gc) G ∧ (∀ a : FV, a ∈ E → OkB cc a.n) ∧ Gn G E ∧ (y).Wf ∧ (∀ x : TU, x ∈ G → x.Wf)) ∧ StpAt w5 OS s ∧ N8 ≤ w5.heap.size ∧ TupAt w5 OX X ∧ X.Wf) := by
                rw [hw5, hX]
                exact ⟨H3.out.1, H3.out.2.1, H3.out.2.2.1, H3.out.2.2.2.1, HSW.out.x⟩
              clear hX hw5 H3
              have d39 : w5.cell? ⟨OS, 39, none⟩ = some (.int .i64 fl) := (HCE.out _ H5.out.2.1).2.1
              have QI : Hid _ := H5.out.1.1.inn HG.out.1 X H5.out.2.2.2.2 fl
              go_wp2_with (first | (refine wpList_load_tup (.tmp 15) rfl OX X rfl H5.out.2.2.2.1 rfl ?_))
              refine Calls.mono QI.out ?_
              rintro e6 w6 ⟨er, z, E6, rfl, hI, hF, k6⟩
              have kt6 : Kt w5 w6 := Kt.ch H5.out.1.1.ta k6
              obtain ⟨n6, hn6⟩ : ∃ n, E6.length = n := ⟨_, rfl⟩
              have hgi := H5.out.1.2.2.2.2.1.inn hI
              have H6 : Hid ((FT w t M N cc E6 w6 ∧ TupAt w6 O8 y ∧ TL w6 N8 (.slice ga nG gc) G ∧ (∀ a : FV, a ∈ E6 → OkB cc a.n) ∧ Gn G E6 ∧ (y).Wf ∧ (∀ x : TU, x ∈ G → x.Wf)) ∧ N8 ≤ w6.heap.size) := ⟨⟨hF, H5.out.1.2.1.kt kt6, H5.out.1.2.2.1.kt kt6, OkB.inn H5.out.1.2.2.2.1 hI, hgi.1, H5.out.1.2.2.2.2.2⟩, Nat.le_trans H5.out.2.2.1 kt6.size⟩
              have HI6 : Hid ((er ≠ 0 → z = xz ∧ n6 = n0) ∧ (er = 0 → ∃ x ∈ G, eqP x.rev z = true) ∧ n6 ≤ n0 ∧ E6.length = n6) := ⟨fun h => ⟨(hgi.2.2.1 h).1, by rw [← hn6, (hgi.2.2.1 h).2]; exact HN0.out⟩, hgi.2.2.2, by have h1 := hgi.2.1; have h2 := HN0.out; omega, hn6⟩
              clear hI hF k6 kt6 hgi hn6 QI d39
              obtain ⟨YZ, hY⟩ : ∃ Y, Y = w6.alloc (.cells (tuC xz) 34) := ⟨_, rfl⟩
              have bY : Below w6.heap.size w6 YZ := by rw [hY]; exact (Below.refl _ _).alloc (Nat.le_refl _) _
              obtain ⟨OZ, hO⟩ : ∃ O, O = w6.heap.size := ⟨_, rfl⟩
              have HNV : Hid (TupAt YZ OZ xz) := by show TupAt YZ OZ xz; rw [hY, hO]; exact tup_new w6 xz
              have HLV : Hid (Below w6.heap.size w6 YZ) := bY
              have HEV : Hid (w6.alloc (.cells (tuC xz) 34) = YZ) := hY.symm
              have HOV : Hid (w6.heap.size = OZ) := hO.symm
              clear hY bY hO
              go_upto_region 29 with (first | (refine wpList_alloc_tup rfl rfl ?_; rw [HEV.out, HOV.out]) | (refine wpList_store_tup (.tmp 16) (.tmp 131) rfl rfl OZ xz z rfl rfl HNV.out rfl ?_; intro w7 h7 k7))
              have b7 : Below w6.heap.size w6 w7 := HLV.out.trans (k7.below (fun q hq => by have hq' : q = OZ := hq; have := HOV.out; omega) HLV.out.size)
              have H7 : Hid ((FT w t M N cc E6 w7 ∧ TupAt w7 O8 y ∧ TL w7 N8 (.slice ga nG gc) G ∧ (∀ a : FV, a ∈ E6 → OkB cc a.n) ∧ Gn G E6 ∧ (y).Wf ∧ (∀ x : TU, x ∈ G → x.Wf)) ∧ N8 ≤ w7.heap.size ∧ TupAt w7 OZ z) := ⟨⟨H6.out.1.1.below b7, H6.out.1.2.1.below b7, H6.out.1.2.2.1.below b7, H6.out.1.2.2.2⟩, Nat.le_trans H6.out.2 b7.size, h7⟩
              clear h7 k7 b7 H6 H5 HNV HLV HEV HOV
              have QL : Hid _ := H7.out.1.1.lens
              rw [HI6.out.2.2.2] at QL
              have tgt : decide ((n0 : Int) < (n6 : Int)) = false := decide_eq_false (by have := HI6.out.2.2.1; omega)
              have tgt2 : decide (n0 < n6) = false := decide_eq_false (by have := HI6.out.2.2.1; omega)
              go_wp2_with fail
              refine Calls.mono QL.out ?_
              rintro e8 w8 ⟨rfl, rfl⟩
              have HEND : Hid (G.length ≤ i + 1 ∧ G.length ≤ 400 ∧ nG ≤ 400) := by have h1 := HN1.out; have h2 := HNG.out; show _ ∧ _ ∧ _; omega
              by_cases her : er = 0
              · have zr : (er != 0) = false := by rw [her]; rfl
                have HAN : Hid (G.any (fun x => eqP x.rev z) = true) := by
                  obtain ⟨x, hx, e⟩ := HI6.out.2.1 her
                  show _ = _
                  rw [List.any_eq_true]
                  exact ⟨x, hx, e⟩
                clear her
                go_upto_region 32 with fail
                clear tgt tgt2 zr QL
                go_wp2_with fail
                go_loopw [18, 19] (fun fx kx wr => ∃ (k : Nat) (fb : Bool), fx = .bool fb ∧ kx = .int .i64 (k : Nat) ∧ k ≤ nG ∧ Hid (Below w7.heap.size w7 wr ∧ fb = (G.take k).any (fun x => eqP x.rev z))) (fun _ kx _ => nG - (intOf kx).toNat)
                case atStart => exact ⟨0, false, rfl, rfl, Nat.zero_le _, Below.refl _ _, rfl⟩
                case round =>
                  obtain ⟨k, fb, rfl, rfl, hk, HK⟩ := hrel
                  by_cases hkn : k < nG
                  · have a1 : decide ((k : Int) < (nG : Int)) = true := decide_eq_true (by omega)
                    have a2 : decide (k < nG) = true := decide_eq_true hkn
                    have k0 : (0 : Int) ≤ (k : Int) := by omega
                    have k1 : (k : Int) < (nG : Int) := by omega
                    have k2 : ((k : Int)).toNat = k := by omega
                    have wk : IntKind.i64.wrap ((k : Int) + 1) = (k : Int) + 1 := i64_k _ (by omega) (by have := HEND.out; omega)
                    obtain ⟨gk, hgk⟩ : ∃ x, G[k]? = some x := ⟨_, List.getElem?_eq_getElem (by rw [HNG.out]; exact hkn)⟩
                    obtain ⟨gT, gc2, hga, _, _, hr⟩ := (H7.out.1.2.2.1.below HK.out.1).at k gk hgk
                    simp only [Value.slice.injEq] at hga
                    obtain ⟨rfl, x1, x2⟩ := hga
                    clear x1 x2
                    have HGK : Hid (G[k]? = some gk ∧ k < nG ∧ wr.rangeAt gT (k * 37) (tuC gk).toList) := ⟨hgk, hkn, hr⟩
                    clear hgk hr hkn hk
                    go_upto_region 35 with fail
                    cases fb with
                    | true =>
                      refine MixH.start (fun A => A.rangeAt gT (k * 37) (tuC gk).toList ∧ TupAt A OZ z) (by kernel_rfl) ?_
                      obtain ⟨wA, hwA⟩ : ∃ wA, wA = wr.drew := ⟨_, rfl⟩
                      have bdr : Below wr.heap.size wr wA := by rw [hwA]; exact (Below.refl _ _).drew
                      have HA : Hid (Below w7.heap.size w7 wA) := HK.out.1.trans (bdr.mono HK.out.1.size)
                      have hS : wA.rangeAt gT (k * 37) (tuC gk).toList ∧ TupAt wA OZ z := ⟨rng_drew hwA HGK.out.2.2, H7.out.2.2.below HA.out⟩
                      rw [← hwA]
                      clear hwA bdr
                      refine MixH.takes [true, true, true, true, true] 6 (by kernel_rfl) (by kernel_rfl) (by decide) (by kernel_rfl) hS (fun K hK => ?_)
                      simp only [Mix.pick]
                      repeat (go_big_quiet_step (fail))
                      refine wpQuiet_nil (hK _ ?_)
                      clear hK K
                      refine MixH.take 5 5 _ (undef) rfl (by kernel_rfl) (by kernel_rfl) (by kernel_rfl) (by kernel_rfl) (.inr ⟨rfl, rfl⟩) hS (fun a' ha => ?_)
                      simp only [Act.put, List.setIfInBounds_toArray, List.set_cons_succ, List.set_cons_zero] at ha
                      subst ha
                      refine MixH.take 4 6 _ (undef) rfl (by kernel_rfl) (by kernel_rfl) (by kernel_rfl) (by kernel_rfl) (.inr ⟨rfl, rfl⟩) hS (fun a' ha => ?_)
                      simp only [Act.put, List.setIfInBounds_toArray, List.set_cons_succ, List.set_cons_zero] at ha
                      subst ha
                      refine MixH.take 3 7 _ (undef) rfl (by kernel_rfl) (by kernel_rfl) (by kernel_rfl) (by kernel_rfl) (.inr ⟨rfl, rfl⟩) hS (fun a' ha => ?_)
                      simp only [Act.put, List.setIfInBounds_toArray, List.set_cons_succ, List.set_cons_zero] at ha
                      subst ha
                      refine MixH.takes [false, false, false, false, false, false, false, false, true, true, true] 0 (by kernel_rfl) (by kernel_rfl) (by decide) (by kernel_rfl) hS (fun K hK => ?_)
                      simp only [Mix.pick]
                      repeat (go_big_quiet_step (fail))
                      refine wpQuiet_nil (hK _ ?_)
                      clear hK K
                      refine MixH.done (by kernel_rfl) ?_
                      clear hS
                      go_wp2_with fail
                      go_roundw
                      case rel => exact ⟨k + 1, true, rfl, by first | rfl | go_num, by have := HGK.out.2.1; omega, HA.out, by rw [any_next HGK.out.1, ← HK.out.2]; rfl⟩
                      case measure => have := HGK.out.2.1; simp [intOf]; omega
                    | false =>
                      obtain ⟨b, hb⟩ : ∃ b, eqP gk.rev z = b := ⟨_, rfl⟩
                      have HBB : Hid (eqP gk.rev z = b) := hb
                      clear hb
                      refine MixH.start (fun A => A.rangeAt gT (k * 37) (tuC gk).toList ∧ TupAt A OZ z) (by kernel_rfl) ?_
                      obtain ⟨wA, hwA⟩ : ∃ wA, wA = wr.drew := ⟨_, rfl⟩
                      have bdr : Below wr.heap.size wr wA := by rw [hwA]; exact (Below.refl _ _).drew
                      have HA : Hid (Below w7.heap.size w7 wA) := HK.out.1.trans (bdr.mono HK.out.1.size)
                      have hS : wA.rangeAt gT (k * 37) (tuC gk).toList ∧ TupAt wA OZ z := ⟨rng_drew hwA HGK.out.2.2, H7.out.2.2.below HA.out⟩
                      rw [← hwA]
                      clear hwA bdr
                      have HGTL : Hid (gT < wA.heap.size) := World.block_lt_of_cell? wA _ (hS.1 0 _ rfl)
                      refine MixH.takes [true, true, true, true, true] 6 (by kernel_rfl) (by kernel_rfl) (by decide) (by kernel_rfl) hS (fun K hK => ?_)
                      simp only [Mix.pick]
                      repeat (go_big_quiet_step (fail))
                      refine wpQuiet_nil (hK _ ?_)
                      clear hK K
                      refine MixH.take 5 5 _ (.agg (tuC gk)) rfl (by kernel_rfl) (by kernel_rfl) (by kernel_rfl) (by kernel_rfl) (yields_tup (.tmp 164) rfl gT (k * 37) gk rfl rfl (fun A hA => hA.1)) hS (fun a' ha => ?_)
                      simp only [Act.put, List.setIfInBounds_toArray, List.set_cons_succ, List.set_cons_zero] at ha
                      subst ha
                      refine MixH.take 4 7 _ (.agg (tuC z)) rfl (by kernel_rfl) (by kernel_rfl) (by kernel_rfl) (by kernel_rfl) (yields_tup (.tmp 16) rfl OZ 0 z rfl rfl (fun A hA => hA.2.all)) hS (fun a' ha => ?_)
                      simp only [Act.put, List.setIfInBounds_toArray, List.set_cons_succ, List.set_cons_zero] at ha
                      subst ha
                      refine MixH.one [false, false, false, false, false, false, true] 3 6 _ rfl rfl (by kernel_rfl) (by kernel_rfl) (fun K hK => ?_)
                      simp only [Mix.pick]
                      go_wp2_with fail
                      refine Calls.mono (reverse_any gk wA) ?_
                      rintro e11 w11 ⟨rfl, b11⟩
                      replace hS : w11.rangeAt gT (k * 37) (tuC gk).toList ∧ TupAt w11 OZ z := ⟨rng_below HGTL.out b11 hS.1, hS.2.below b11⟩
                      have HB : Hid (Below w7.heap.size w7 w11) := HA.out.trans (b11.mono HA.out.size)
                      clear b11
                      go_wp2_with fail
                      refine ⟨rfl, hK _ _ hS ?_⟩
                      clear hK K
                      refine MixH.take 2 8 _ (.bool b) rfl (by kernel_rfl) (by kernel_rfl) (by kernel_rfl) (by kernel_rfl) (yields_eql_tu (.tmp 166) (.tmp 167) rfl gk.rev z rfl rfl b HBB.out rfl) hS (fun a' ha => ?_)
                      simp only [Act.put, List.setIfInBounds_toArray, List.set_cons_succ, List.set_cons_zero] at ha
                      subst ha
                      refine MixH.takes [false, false, false, false, false, false, false, false, false, true, true] 0 (by kernel_rfl) (by kernel_rfl) (by decide) (by kernel_rfl) hS (fun K hK => ?_)
                      simp only [Mix.pick]
                      repeat (go_big_quiet_step (fail))
                      refine wpQuiet_nil (hK _ ?_)
                      clear hK K
                      refine MixH.done (by kernel_rfl) ?_
                      clear hS
                      go_wp2_with fail
                      go_roundw
                      case rel => exact ⟨k + 1, b, rfl, by first | rfl | go_num, by have := HGK.out.2.1; omega, HB.out, by rw [any_next HGK.out.1, ← HK.out.2, HBB.out]; rfl⟩
                      case measure => have := HGK.out.2.1; simp [intOf]; omega
                  · have a1 : decide ((k : Int) < (nG : Int)) = false := decide_eq_false (by omega)
                    have a2 : decide (k < nG) = false := decide_eq_false hkn
                    have hfb : fb = true := by
                      have h1 := HK.out.2; rw [List.take_of_length_le (by rw [HNG.out]; omega), HAN.out] at h1; exact h1
                    subst hfb
                    have HZ : Hid (FT w t M N cc E6 wr ∧ TupAt wr O8 y ∧ TL wr N8 (.slice ga nG gc) G ∧ (∀ a : FV, a ∈ E6 → OkB cc a.n) ∧ Gn G E6 ∧ (y).Wf ∧ (∀ x : TU, x ∈ G → x.Wf)) := ⟨H7.out.1.1.below HK.out.1, H7.out.1.2.1.below HK.out.1, H7.out.1.2.2.1.below HK.out.1, H7.out.1.2.2.2⟩
                    have HNZ : Hid (G.length ≤ i + 1 ∧ G.length ≤ 400 ∧ N8 ≤ wr.heap.size) := ⟨HEND.out.1, HEND.out.2.1, Nat.le_trans H7.out.2.1 HK.out.1.size⟩
                    clear hkn hk HK
                    go_wp2_with fail
                    go_roundw
                    case rel => exact ⟨i + 1, E6, G, y, by first | rfl | go_num, by have := HLT.out; omega, HNZ.out, HZ.out⟩
                    case measure => have := HLT.out; simp [intOf]; omega
              · have zr : (er != 0) = true := by simpa using her
                have hzx := (HI6.out.1 her).1
                have hn60 : n6 = n0 := (HI6.out.1 her).2
                have znn : ((n6 : Int) != (n0 : Int)) = false := by rw [hn60]; simp
                subst hzx
                clear her hn60
                go_wp2_with (first | (refine wpList_load_tup (.tmp 16) rfl OZ xz rfl H7.out.2.2 rfl ?_) | (refine wpList_build_tu0 rfl rfl ?_) | (refine wpList_neq_tu (.tmp 141) (.tmp 142) rfl xz xz rfl rfl false (by rw [eqP_refl]; rfl) rfl ?_))
                refine Calls.mono QL.out ?_
                rintro e9 w9 ⟨rfl, rfl⟩
                clear QL
                go_upto_region 32 with fail
                clear tgt tgt2 zr znn
                go_wp2_with fail
                go_loopw [18, 19] (fun fx kx wr => ∃ (k : Nat) (fb : Bool), fx = .bool fb ∧ kx = .int .i64 (k : Nat) ∧ k ≤ nG ∧ Hid (Below w7.heap.size w7 wr ∧ fb = true)) (fun _ kx _ => nG - (intOf kx).toNat)
                case atStart => exact ⟨0, true, rfl, rfl, Nat.zero_le _, Below.refl _ _, rfl⟩
                case round =>
                  obtain ⟨k, fb, rfl, rfl, hk, HK⟩ := hrel
                  by_cases hkn : k < nG
                  · have a1 : decide ((k : Int) < (nG : Int)) = true := decide_eq_true (by omega)
                    have a2 : decide (k < nG) = true := decide_eq_true hkn
                    have k0 : (0 : Int) ≤ (k : Int) := by omega
                    have k1 : (k : Int) < (nG : Int) := by omega
                    have k2 : ((k : Int)).toNat = k := by omega
                    have wk : IntKind.i64.wrap ((k : Int) + 1) = (k : Int) + 1 := i64_k _ (by omega) (by have := HEND.out; omega)
                    obtain ⟨gk, hgk⟩ : ∃ x, G[k]? = some x := ⟨_, List.getElem?_eq_getElem (by rw [HNG.out]; exact hkn)⟩
                    obtain ⟨gT, gc2, hga, _, _, hr⟩ := (H7.out.1.2.2.1.below HK.out.1).at k gk hgk
                    simp only [Value.slice.injEq] at hga
                    obtain ⟨rfl, x1, x2⟩ := hga
                    clear x1 x2
                    have HGK : Hid (G[k]? = some gk ∧ k < nG ∧ wr.rangeAt gT (k * 37) (tuC gk).toList) := ⟨hgk, hkn, hr⟩
                    clear hgk hr hkn hk
                    go_upto_region 35 with fail
                    have hfb := HK.out.2
                    subst hfb
                    refine MixH.start (fun A => A.rangeAt gT (k * 37) (tuC gk).toList ∧ TupAt A OZ xz) (by kernel_rfl) ?_
                    obtain ⟨wA, hwA⟩ : ∃ wA, wA = wr.drew := ⟨_, rfl⟩
                    have bdr : Below wr.heap.size wr wA := by rw [hwA]; exact (Below.refl _ _).drew
                    have HA : Hid (Below w7.heap.size w7 wA) := HK.out.1.trans (bdr.mono HK.out.1.size)
                    have hS : wA.rangeAt gT (k * 37) (tuC gk).toList ∧ TupAt wA OZ xz := ⟨rng_drew hwA HGK.out.2.2, H7.out.2.2.below HA.out⟩
                    rw [← hwA]
                    clear hwA bdr
                    refine MixH.takes [true, true, true, true, true] 6 (by kernel_rfl) (by kernel_rfl) (by decide) (by kernel_rfl) hS (fun K hK => ?_)
                    simp only [Mix.pick]
                    repeat (go_big_quiet_step (fail))
                    refine wpQuiet_nil (hK _ ?_)
                    clear hK K
                    refine MixH.take 5 5 _ (undef) rfl (by kernel_rfl) (by kernel_rfl) (by kernel_rfl) (by kernel_rfl) (.inr ⟨rfl, rfl⟩) hS (fun a' ha => ?_)
                    simp only [Act.put, List.setIfInBounds_toArray, List.set_cons_succ, List.set_cons_zero] at ha
                    subst ha
                    refine MixH.take 4 6 _ (undef) rfl (by kernel_rfl) (by kernel_rfl) (by kernel_rfl) (by kernel_rfl) (.inr ⟨rfl, rfl⟩) hS (fun a' ha => ?_)
                    simp only [Act.put, List.setIfInBounds_toArray, List.set_cons_succ, List.set_cons_zero] at ha
                    subst ha
                    refine MixH.take 3 7 _ (undef) rfl (by kernel_rfl) (by kernel_rfl) (by kernel_rfl) (by kernel_rfl) (.inr ⟨rfl, rfl⟩) hS (fun a' ha => ?_)
                    simp only [Act.put, List.setIfInBounds_toArray, List.set_cons_succ, List.set_cons_zero] at ha
                    subst ha
                    refine MixH.takes [false, false, false, false, false, false, false, false, true, true, true] 0 (by kernel_rfl) (by kernel_rfl) (by decide) (by kernel_rfl) hS (fun K hK => ?_)
                    simp only [Mix.pick]
                    repeat (go_big_quiet_step (fail))
                    refine wpQuiet_nil (hK _ ?_)
                    clear hK K
                    refine MixH.done (by kernel_rfl) ?_
                    clear hS
                    go_wp2_with fail
                    go_roundw
                    case rel => exact ⟨k + 1, true, rfl, by first | rfl | go_num, by have := HGK.out.2.1; omega, HA.out, rfl⟩
                    case measure => have := HGK.out.2.1; simp [intOf]; omega
                  · have a1 : decide ((k : Int) < (nG : Int)) = false := decide_eq_false (by omega)
                    have a2 : decide (k < nG) = false := decide_eq_false hkn
                    have hfb : fb = true := by
                      exact HK.out.2
                    subst hfb
                    have HZ : Hid (FT w t M N cc E6 wr ∧ TupAt wr O8 y ∧ TL wr N8 (.slice ga nG gc) G ∧ (∀ a : FV, a ∈ E6 → OkB cc a.n) ∧ Gn G E6 ∧ (y).Wf ∧ (∀ x : TU, x ∈ G → x.Wf)) := ⟨H7.out.1.1.below HK.out.1, H7.out.1.2.1.below HK.out.1, H7.out.1.2.2.1.below HK.out.1, H7.out.1.2.2.2⟩
                    have HNZ : Hid (G.length ≤ i + 1 ∧ G.length ≤ 400 ∧ N8 ≤ wr.heap.size) := ⟨HEND.out.1, HEND.out.2.1, Nat.le_trans H7.out.2.1 HK.out.1.size⟩
                    clear hkn hk HK
                    go_wp2_with fail
                    go_roundw
                    case rel => exact ⟨i + 1, E6, G, y, by first | rfl | go_num, by have := HLT.out; omega, HNZ.out, HZ.out⟩
                    case measure => have := HLT.out; simp [intOf]; omega
          · have q2 : (kd == 2) = false := by simpa using h2
            by_cases h3 : kd = 3
            · have q3 : (kd == 3) = true := by simpa using h3
              clear h1 h2 h3
              as_aux_lemma =>
                go_upto_region 25 with fail
                clear c0
                obtain ⟨YX, hY⟩ : ∃ Y, Y = w1.alloc (.cells (tuC xz) 34) := ⟨_, rfl⟩
                have bY : Below w1.heap.size w1 YX := by rw [hY]; exact (Below.refl _ _).alloc (Nat.le_refl _) _
                obtain ⟨OX, hO⟩ : ∃ O, O = w1.heap.size := ⟨_, rfl⟩
                have HNV : Hid (TupAt YX OX xz) := by show TupAt YX OX xz; rw [hY, hO]; exact tup_new w1 xz
                have HLV : Hid (Below w1.heap.size w1 YX) := bY
                have HEV : Hid (w1.alloc (.cells (tuC xz) 34) = YX) := hY.symm
                have HOV : Hid (w1.heap.size = OX) := hO.symm
                clear hY bY hO
                go_upto_region 26 with (first | (refine wpList_mid_tup (.tmp 118) rfl OS 2 s.x rfl HSB.out.x rfl ?_) | (refine wpList_alloc_tup rfl rfl ?_; rw [HEV.out, HOV.out]) | (refine wpList_store_tup (.tmp 15) (.tmp 119) rfl rfl OX xz s.x rfl rfl HNV.out rfl ?_; intro w3 h3 k3))
                have b3 : Below w1.heap.size w1 w3 := HLV.out.trans (k3.below (fun q hq => by have hq' : q = OX := hq; have := HOV.out; omega) HLV.out.size)
                have H3 : Hid ((FT w t M N cc E w3 ∧ TupAt w3 O8 y ∧ TL w3 N8 (.slice ga nG gc) G ∧ (∀ a : FV, a ∈ E → OkB cc a.n) ∧ Gn G E ∧ (y).Wf ∧ (∀ x : TU, x ∈ G → x.Wf)) ∧ StpAt w3 OS s ∧ N8 ≤ w3.heap.size ∧ TupAt w3 OX s.x ∧ w1.heap.size = OX) := ⟨⟨H1.out.1.below b3, H1.out.2.1.below b3, H1.out.2.2.1.below b3, H1.out.2.2.2⟩, HSB.out.below b3, Nat.le_trans HN1.out.2.2 b3.size, h3, HOV.out⟩
                have c0 : w3.cell? ⟨OS, 0, none⟩ = some (.int .i64 kd) := (HCE.out _ H3.out.2.1).1
                clear h3 k3 b3 HNV HLV HEV HOV
                go_upto_region 27 with fail
                clear c0
                go_wp2_with (first | (refine wpList_load_tup (.tmp 8) rfl O8 y rfl H3.out.1.2.1 rfl ?_))
                refine Calls.mono (reverse_any y w3) ?_
                rintro e4 w4 ⟨rfl, b4⟩
                have H4 : Hid ((FT w t M N cc E w4 ∧ TupAt w4 O8 y ∧ TL w4 N8 (.slice ga nG gc) G ∧ (∀ a : FV, a ∈ E → OkB cc a.n) ∧ Gn G E ∧ (y).Wf ∧ (∀ x : TU, x ∈ G → x.Wf)) ∧ StpAt w4 OS s ∧ N8 ≤ w4.heap.size ∧ TupAt w4 OX s.x ∧ Below w3.heap.size w3 w4) := ⟨⟨H3.out.1.1.below b4, H3.out.1.2.1.below b4, H3.out.1.2.2.1.below b4, H3.out.1.2.2.2⟩, H3.out.2.1.below b4, Nat.le_trans H3.out.2.2.1 b4.size, H3.out.2.2.2.1.below b4, b4⟩
                clear b4
                go_upto_region 28 with (first | (refine wpList_store_tup (.tmp 15) (.tmp 124) rfl rfl OX s.x y.rev rfl rfl H4.out.2.2.2.1 rfl ?_; intro w5 h5 k5))
                obtain ⟨X, hX⟩ : ∃ X, X = y.rev := ⟨_, rfl⟩
                have H5 : Hid ((FT w t M N cc E w5 ∧ TupAt w5 O8 y ∧ TL w5 N8 (.slice ga nG gc) G ∧ (∀ a : FV, a ∈ E → OkB cc a.n) ∧ Gn G E ∧ (y).Wf ∧ (∀ x : TU, x ∈ G → x.Wf)) ∧ StpAt w5 OS s ∧ N8 ≤ w5.heap.size ∧ TupAt w5 OX X ∧ X.Wf) := by
                  have e1 := H3.out.2.2.2.2
                  have e2 := HN1.out.2.2
                  have e3 := HO8.out
                  refine ⟨⟨H4.out.1.1.chO k5 (by omega) (fun q hq e => H4.out.1.1.ta.nb H4.out.2.2.2.1 (by decide) (by decide) (by subst e; exact hq)), H4.out.1.2.1.ch k5 (fun e => by have e' : O8 = OX := e; omega), H4.out.1.2.2.1.ch k5 (fun q hq e => by have h1 := tl_lt H1.out.2.2.1 hq; have e' : q = OX := e; omega), H4.out.1.2.2.2⟩, H4.out.2.1.ch k5 (fun e => by have e' : OS = OX := e; have h1 := HSB.out.lt; omega), Nat.le_trans H4.out.2.2.1 k5.size, by rw [hX]; exact h5, by rw [hX]; exact H1.out.2.2.2.2.2.1.rev⟩
                clear h5 k5 hX H3 H4
                have d39 : w5.cell? ⟨OS, 39, none⟩ = some (.int .i64 fl) := (HCE.out _ H5.out.2.1).2.1
                have QI : Hid _ := H5.out.1.1.inn HG.out.1 X H5.out.2.2.2.2 fl
                go_wp2_with (first | (refine wpList_load_tup (.tmp 15) rfl OX X rfl H5.out.2.2.2.1 rfl ?_))
                refine Calls.mono QI.out ?_
                rintro e6 w6 ⟨er, z, E6, rfl, hI, hF, k6⟩
                have kt6 : Kt w5 w6 := Kt.ch H5.out.1.1.ta k6
                obtain ⟨n6, hn6⟩ : ∃ n, E6.length = n := ⟨_, rfl⟩
                have hgi := H5.out.1.2.2.2.2.1.inn hI
                have H6 : Hid ((FT w t M N cc E6 w6 ∧ TupAt w6 O8 y ∧ TL w6 N8 (.slice ga nG gc) G ∧ (∀ a : FV, a ∈ E6 → OkB cc a.n) ∧ Gn G E6 ∧ (y).Wf ∧ (∀ x : TU, x ∈ G → x.Wf)) ∧ N8 ≤ w6.heap.size) := ⟨⟨hF, H5.out.1.2.1.kt kt6, H5.out.1.2.2.1.kt kt6, OkB.inn H5.out.1.2.2.2.1 hI, hgi.1, H5.out.1.2.2.2.2.2⟩, Nat.le_trans H5.out.2.2.1 kt6.size⟩
                have HI6 : Hid ((er ≠ 0 → z = xz ∧ n6 = n0) ∧ (er = 0 → ∃ x ∈ G, eqP x.rev z = true) ∧ n6 ≤ n0 ∧ E6.length = n6) := ⟨fun h => ⟨(hgi.2.2.1 h).1, by rw [← hn6, (hgi.2.2.1 h).2]; exact HN0.out⟩, hgi.2.2.2, by have h1 := hgi.2.1; have h2 := HN0.out; omega, hn6⟩
                clear hI hF k6 kt6 hgi hn6 QI d39
                obtain ⟨YZ, hY⟩ : ∃ Y, Y = w6.alloc (.cells (tuC xz) 34) := ⟨_, rfl⟩
                have bY : Below w6.heap.size w6 YZ := by rw [hY]; exact (Below.refl _ _).alloc (Nat.le_refl _) _
                obtain ⟨OZ, hO⟩ : ∃ O, O = w6.heap.size := ⟨_, rfl⟩
                have HNV : Hid (TupAt YZ OZ xz) := by show TupAt YZ OZ xz; rw [hY, hO]; exact tup_new w6 xz
                have HLV : Hid (Below w6.heap.size w6 YZ) := bY
                have HEV : Hid (w6.alloc (.cells (tuC xz) 34) = YZ) := hY.symm
                have HOV : Hid (w6.heap.size = OZ) := hO.symm
                clear hY bY hO
                go_upto_region 29 with (first | (refine wpList_alloc_tup rfl rfl ?_; rw [HEV.out, HOV.out]) | (refine wpList_store_tup (.tmp 16) (.tmp 131) rfl rfl OZ xz z rfl rfl HNV.out rfl ?_; intro w7 h7 k7))
                have b7 : Below w6.heap.size w6 w7 := HLV.out.trans (k7.below (fun q hq => by have hq' : q = OZ := hq; have := HOV.out; omega) HLV.out.size)
                have H7 : Hid ((FT w t M N cc E6 w7 ∧ TupAt w7 O8 y ∧ TL w7 N8 (.slice ga nG gc) G ∧ (∀ a : FV, a ∈ E6 → OkB cc a.n) ∧ Gn G E6 ∧ (y).Wf ∧ (∀ x : TU, x ∈ G → x.Wf)) ∧ N8 ≤ w7.heap.size ∧ TupAt w7 OZ z) := ⟨⟨H6.out.1.1.below b7, H6.out.1.2.1.below b7, H6.out.1.2.2.1.below b7, H6.out.1.2.2.2⟩, Nat.le_trans H6.out.2 b7.size, h7⟩
                clear h7 k7 b7 H6 H5 HNV HLV HEV HOV
                have QL : Hid _ := H7.out.1.1.lens
                rw [HI6.out.2.2.2] at QL
                have tgt : decide ((n0 : Int) < (n6 : Int)) = false := decide_eq_false (by have := HI6.out.2.2.1; omega)
                have tgt2 : decide (n0 < n6) = false := decide_eq_false (by have := HI6.out.2.2.1; omega)
                go_wp2_with fail
                refine Calls.mono QL.out ?_
                rintro e8 w8 ⟨rfl, rfl⟩
                have HEND : Hid (G.length ≤ i + 1 ∧ G.length ≤ 400 ∧ nG ≤ 400) := by have h1 := HN1.out; have h2 := HNG.out; show _ ∧ _ ∧ _; omega
                by_cases her : er = 0
                · have zr : (er != 0) = false := by rw [her]; rfl
                  have HAN : Hid (G.any (fun x => eqP x.rev z) = true) := by
                    obtain ⟨x, hx, e⟩ := HI6.out.2.1 her
                    show _ = _
                    rw [List.any_eq_true]
                    exact ⟨x, hx, e⟩
                  clear her
                  go_upto_region 32 with fail
                  clear tgt tgt2 zr QL
                  go_wp2_with fail
                  go_loopw [18, 19] (fun fx kx wr => ∃ (k : Nat) (fb : Bool), fx = .bool fb ∧ kx = .int .i64 (k : Nat) ∧ k ≤ nG ∧ Hid (Below w7.heap.size w7 wr ∧ fb = (G.take k).any (fun x => eqP x.rev z))) (fun _ kx _ => nG - (intOf kx).toNat)
                  case atStart => exact ⟨0, false, rfl, rfl, Nat.zero_le _, Below.refl _ _, rfl⟩
                  case round =>
                    obtain ⟨k, fb, rfl, rfl, hk, HK⟩ := hrel
                    by_cases hkn : k < nG
                    · have a1 : decide ((k : Int) < (nG : Int)) = true := decide_eq_true (by omega)
                      have a2 : decide (k < nG) = true := decide_eq_true hkn
                      have k0 : (0 : Int) ≤ (k : Int) := by omega
                      have k1 : (k : Int) < (nG : Int) := by omega
                      have k2 : ((k : Int)).toNat = k := by omega
                      have wk : IntKind.i64.wrap ((k : Int) + 1) = (k : Int) + 1 := i64_k _ (by omega) (by have := HEND.out; omega)
                      obtain ⟨gk, hgk⟩ : ∃ x, G[k]? = some x := ⟨_, List.getElem?_eq_getElem (by rw [HNG.out]; exact hkn)⟩
                      obtain ⟨gT, gc2, hga, _, _, hr⟩ := (H7.out.1.2.2.1.below HK.out.1).at k gk hgk
                      simp only [Value.slice.injEq] at hga
                      obtain ⟨rfl, x1, x2⟩ := hga
                      clear x1 x2
                      have HGK : Hid (G[k]? = some gk ∧ k < nG ∧ wr.rangeAt gT (k * 37) (tuC gk).toList) := ⟨hgk, hkn, hr⟩
                      clear hgk hr hkn hk
                      go_upto_region 35 with fail
                      cases fb with
                      | true =>
                        refine MixH.start (fun A => A.rangeAt gT (k * 37) (tuC gk).toList ∧ TupAt A OZ z) (by kernel_rfl) ?_
                        obtain ⟨wA, hwA⟩ : ∃ wA, wA = wr.drew := ⟨_, rfl⟩
                        have bdr : Below wr.heap.size wr wA := by rw [hwA]; exact (Below.refl _ _).drew
                        have HA : Hid (Below w7.heap.size w7 wA) := HK.out.1.trans (bdr.mono HK.out.1.size)
                        have hS : wA.rangeAt gT (k * 37) (tuC gk).toList ∧ TupAt wA OZ z := ⟨rng_drew hwA HGK.out.2.2, H7.out.2.2.below HA.out⟩
                        rw [← hwA]
                        clear hwA bdr
                        refine MixH.takes [true, true, true, true, true] 6 (by kernel_rfl) (by kernel_rfl) (by decide) (by kernel_rfl) hS (fun K hK => ?_)
                        simp only [Mix.pick]
                        repeat (go_big_quiet_step (fail))
                        refine wpQuiet_nil (hK _ ?_)
                        clear hK K
                        refine MixH.take 5 5 _ (undef) rfl (by kernel_rfl) (by kernel_rfl) (by kernel_rfl) (by kernel_rfl) (.inr ⟨rfl, rfl⟩) hS (fun a' ha => ?_)
                        simp only [Act.put, List.setIfInBounds_toArray, List.set_cons_succ, List.set_cons_zero] at ha
                        subst ha
                        refine MixH.take 4 6 _ (undef) rfl (by kernel_rfl) (by kernel_rfl) (by kernel_rfl) (by kernel_rfl) (.inr ⟨rfl, rfl⟩) hS (fun a' ha => ?_)
                        simp only [Act.put, List.setIfInBounds_toArray, List.set_cons_succ, List.set_cons_zero] at ha
                        subst ha
                        refine MixH.take 3 7 _ (undef) rfl (by kernel_rfl) (by kernel_rfl) (by kernel_rfl) (by kernel_rfl) (.inr ⟨rfl, rfl⟩) hS (fun a' ha => ?_)
                        simp only [Act.put, List.setIfInBounds_toArray, List.set_cons_succ, List.set_cons_zero] at ha
                        subst ha
                        refine MixH.takes [false, false, false, false, false, false, false, false, true, true, true] 0 (by kernel_rfl) (by kernel_rfl) (by decide) (by kernel_rfl) hS (fun K hK => ?_)
                        simp only [Mix.pick]
                        repeat (go_big_quiet_step (fail))
                        refine wpQuiet_nil (hK _ ?_)
                        clear hK K
                        refine MixH.done (by kernel_rfl) ?_
                        clear hS
                        go_wp2_with fail
                        go_roundw
                        case rel => exact ⟨k + 1, true, rfl, by first | rfl | go_num, by have := HGK.out.2.1; omega, HA.out, by rw [any_next HGK.out.1, ← HK.out.2]; rfl⟩
                        case measure => have := HGK.out.2.1; simp [intOf]; omega
                      | false =>
                        obtain ⟨b, hb⟩ : ∃ b, eqP gk.rev z = b := ⟨_, rfl⟩
                        have HBB : Hid (eqP gk.rev z = b) := hb
                        clear hb
                        refine MixH.start (fun A => A.rangeAt gT (k * 37) (tuC gk).toList ∧ TupAt A OZ z) (by kernel_rfl) ?_
                        obtain ⟨wA, hwA⟩ : ∃ wA, wA = wr.drew := ⟨_, rfl⟩
                        have bdr : Below wr.heap.size wr wA := by rw [hwA]; exact (Below.refl _ _).drew
                        have HA : Hid (Below w7.heap.size w7 wA) := HK.out.1.trans (bdr.mono HK.out.1.size)
                        have hS : wA.rangeAt gT (k * 37) (tuC gk).toList ∧ TupAt wA OZ z := ⟨rng_drew hwA HGK.out.2.2, H7.out.2.2.below HA.out⟩
                        rw [← hwA]
                        clear hwA bdr
                        have HGTL : Hid (gT < wA.heap.size) := World.block_lt_of_cell? wA _ (hS.1 0 _ rfl)
                        refine MixH.takes [true, true, true, true, true] 6 (by kernel_rfl) (by kernel_rfl) (by decide) (by kernel_rfl) hS (fun K hK => ?_)
                        simp only [Mix.pick]
                        repeat (go_big_quiet_step (fail))
                        refine wpQuiet_nil (hK _ ?_)
                        clear hK K
                        refine MixH.take 5 5 _ (.agg (tuC gk)) rfl (by kernel_rfl) (by kernel_rfl) (by kernel_rfl) (by kernel_rfl) (yields_tup (.tmp 164) rfl gT (k * 37) gk rfl rfl (fun A hA => hA.1)) hS (fun a' ha => ?_)
                        simp only [Act.put, List.setIfInBounds_toArray, List.set_cons_succ, List.set_cons_zero] at ha
                        subst ha
                        refine MixH.take 4 7 _ (.agg (tuC z)) rfl (by kernel_rfl) (by kernel_rfl) (by kernel_rfl) (by kernel_rfl) (yields_tup (.tmp 16) rfl OZ 0 z rfl rfl (fun A hA => hA.2.all)) hS (fun a' ha => ?_)
                        simp only [Act.put, List.setIfInBounds_toArray, List.set_cons_succ, List.set_cons_zero] at ha
                        subst ha
                        refine MixH.one [false, false, false, false, false, false, true] 3 6 _ rfl rfl (by kernel_rfl) (by kernel_rfl) (fun K hK => ?_)
                        simp only [Mix.pick]
                        go_wp2_with fail
                        refine Calls.mono (reverse_any gk wA) ?_
                        rintro e11 w11 ⟨rfl, b11⟩
                        replace hS : w11.rangeAt gT (k * 37) (tuC gk).toList ∧ TupAt w11 OZ z := ⟨rng_below HGTL.out b11 hS.1, hS.2.below b11⟩
                        have HB : Hid (Below w7.heap.size w7 w11) := HA.out.trans (b11.mono HA.out.size)
                        clear b11
                        go_wp2_with fail
                        refine ⟨rfl, hK _ _ hS ?_⟩
                        clear hK K
                        refine MixH.take 2 8 _ (.bool b) rfl (by kernel_rfl) (by kernel_rfl) (by kernel_rfl) (by kernel_rfl) (yields_eql_tu (.tmp 166) (.tmp 167) rfl gk.rev z rfl rfl b HBB.out rfl) hS (fun a' ha => ?_)
                        simp only [Act.put, List.setIfInBounds_toArray, List.set_cons_succ, List.set_cons_zero] at ha
                        subst ha
                        refine MixH.takes [false, false, false, false, false, false, false, false, false, true, true] 0 (by kernel_rfl) (by kernel_rfl) (by decide) (by kernel_rfl) hS (fun K hK => ?_)
                        simp only [Mix.pick]
                        repeat (go_big_quiet_step (fail))
                        refine wpQuiet_nil (hK _ ?_)
                        clear hK K
                        refine MixH.done (by kernel_rfl) ?_
                        clear hS
                        go_wp2_with fail
                        go_roundw
                        case rel => exact ⟨k + 1, b, rfl, by first | rfl | go_num, by have := HGK.out.2.1; omega, HB.out, by rw [any_next HGK.out.1, ← HK.out.2, HBB.out]; rfl⟩
                        case measure => have := HGK.out.2.1; simp [intOf]; omega
                    · have a1 : decide ((k : Int) < (nG : Int)) = false := decide_eq_false (by omega)
                      have a2 : decide (k < nG) = false := decide_eq_false hkn
                      have hfb : fb = true := by
                        have h1 := HK.out.2; rw [List.take_of_length_le (by rw [HNG.out]; omega), HAN.out] at h1; exact h1
                      subst hfb
                      have HZ : Hid (FT w t M N cc E6 wr ∧ TupAt wr O8 y ∧ TL wr N8 (.slice ga nG gc) G ∧ (∀ a : FV, a ∈ E6 → OkB cc a.n) ∧ Gn G E6 ∧ (y).Wf ∧ (∀ x : TU, x ∈ G → x.Wf)) := ⟨H7.out.1.1.below HK.out.1, H7.out.1.2.1.below HK.out.1, H7.out.1.2.2.1.below HK.out.1, H7.out.1.2.2.2⟩
                      have HNZ : Hid (G.length ≤ i + 1 ∧ G.length ≤ 400 ∧ N8 ≤ wr.heap.size) := ⟨HEND.out.1, HEND.out.2.1, Nat.le_trans H7.out.2.1 HK.out.1.size⟩
                      clear hkn hk HK
                      go_wp2_with fail
                      go_roundw
                      case rel => exact ⟨i + 1, E6, G, y, by first | rfl | go_num, by have := HLT.out; omega, HNZ.out, HZ.out⟩
                      case measure => have := HLT.out; simp [intOf]; omega
                · have zr : (er != 0) = true := by simpa using her
                  have hzx := (HI6.out.1 her).1
                  have hn60 : n6 = n0 := (HI6.out.1 her).2
                  have znn : ((n6 : Int) != (n0 : Int)) = false := by rw [hn60]; simp
                  subst hzx
                  clear her hn60
                  go_wp2_with (first | (refine wpList_load_tup (.tmp 16) rfl OZ xz rfl H7.out.2.2 rfl ?_) | (refine wpList_build_tu0 rfl rfl ?_) | (refine wpList_neq_tu (.tmp 141) (.tmp 142) rfl xz xz rfl rfl false (by rw [eqP_refl]; rfl) rfl ?_))
                  refine Calls.mono QL.out ?_
                  rintro e9 w9 ⟨rfl, rfl⟩
                  clear QL
                  go_upto_region 32 with fail
                  clear tgt tgt2 zr znn
                  go_wp2_with fail
                  go_loopw [18, 19] (fun fx kx wr => ∃ (k : Nat) (fb : Bool), fx = .bool fb ∧ kx = .int .i64 (k : Nat) ∧ k ≤ nG ∧ Hid (Below w7.heap.size w7 wr ∧ fb = true)) (fun _ kx _ => nG - (intOf kx).toNat)
                  case atStart => exact ⟨0, true, rfl, rfl, Nat.zero_le _, Below.refl _ _, rfl⟩
                  case round =>
                    obtain ⟨k, fb, rfl, rfl, hk, HK⟩ := hrel
                    by_cases hkn : k < nG
                    · have a1 : decide ((k : Int) < (nG : Int)) = true := decide_eq_true (by omega)
                      have a2 : decide (k < nG) = true := decide_eq_true hkn
                      have k0 : (0 : Int) ≤ (k : Int) := by omega
                      have k1 : (k : Int) < (nG : Int) := by omega
                      have k2 : ((k : Int)).toNat = k := by omega
                      have wk : IntKind.i64.wrap ((k : Int) + 1) = (k : Int) + 1 := i64_k _ (by omega) (by have := HEND.out; omega)
                      obtain ⟨gk, hgk⟩ : ∃ x, G[k]? = some x := ⟨_, List.getElem?_eq_getElem (by rw [HNG.out]; exact hkn)⟩
                      obtain ⟨gT, gc2, hga, _, _, hr⟩ := (H7.out.1.2.2.1.below HK.out.1).at k gk hgk
                      simp only [Value.slice.injEq] at hga
                      obtain ⟨rfl, x1, x2⟩ := hga
                      clear x1 x2
                      have HGK : Hid (G[k]? = some gk ∧ k < nG ∧ wr.rangeAt gT (k * 37) (tuC gk).toList) := ⟨hgk, hkn, hr⟩
                      clear hgk hr hkn hk
                      go_upto_region 35 with fail
                      have hfb := HK.out.2
                      subst hfb
                      refine MixH.start (fun A => A.rangeAt gT (k * 37) (tuC gk).toList ∧ TupAt A OZ xz) (by kernel_rfl) ?_
                      obtain ⟨wA, hwA⟩ : ∃ wA, wA = wr.drew := ⟨_, rfl⟩
                      have bdr : Below wr.heap.size wr wA := by rw [hwA]; exact (Below.refl _ _).drew
                      have HA : Hid (Below w7.heap.size w7 wA) := HK.out.1.trans (bdr.mono HK.out.1.size)
                      have hS : wA.rangeAt gT (k * 37) (tuC gk).toList ∧ TupAt wA OZ xz := ⟨rng_drew hwA HGK.out.2.2, H7.out.2.2.below HA.out⟩
                      rw [← hwA]
                      clear hwA bdr
                      refine MixH.takes [true, true, true, true, true] 6 (by kernel_rfl) (by kernel_rfl) (by decide) (by kernel_rfl) hS (fun K hK => ?_)
                      simp only [Mix.pick]
                      repeat (go_big_quiet_step (fail))
                      refine wpQuiet_nil (hK _ ?_)
                      clear hK K
                      refine MixH.take 5 5 _ (undef) rfl (by kernel_rfl) (by kernel_rfl) (by kernel_rfl) (by kernel_rfl) (.inr ⟨rfl, rfl⟩) hS (fun a' ha => ?_)
                      simp only [Act.put, List.setIfInBounds_toArray, List.set_cons_succ, List.set_cons_zero] at ha
                      subst ha
                      refine MixH.take 4 6 _ (undef) rfl (by kernel_rfl) (by kernel_rfl) (by kernel_rfl) (by kernel_rfl) (.inr ⟨rfl, rfl⟩) hS (fun a' ha => ?_)
                      simp only [Act.put, List.setIfInBounds_toArray, List.set_cons_succ, List.set_cons_zero] at ha
                      subst ha
                      refine MixH.take 3 7 _ (undef) rfl (by kernel_rfl) (by kernel_rfl) (by kernel_rfl) (by kernel_rfl) (.inr ⟨rfl, rfl⟩) hS (fun a' ha => ?_)
                      simp only [Act.put, List.setIfInBounds_toArray, List.set_cons_succ, List.set_cons_zero] at ha
                      subst ha
                      refine MixH.takes [false, false, false, false, false, false, false, false, true, true, true] 0 (by kernel_rfl) (by kernel_rfl) (by decide) (by kernel_rfl) hS (fun K hK => ?_)
                      simp only [Mix.pick]
                      repeat (go_big_quiet_step (fail))
                      refine wpQuiet_nil (hK _ ?_)
                      clear hK K
                      refine MixH.done (by kernel_rfl) ?_
                      clear hS
                      go_wp2_with fail
                      go_roundw
                      case rel => exact ⟨k + 1, true, rfl, by first | rfl | go_num, by have := HGK.out.2.1; omega, HA.out, rfl⟩
                      case measure => have := HGK.out.2.1; simp [intOf]; omega
                    · have a1 : decide ((k : Int) < (nG : Int)) = false := decide_eq_false (by omega)
                      have a2 : decide (k < nG) = false := decide_eq_false hkn
                      have hfb : fb = true := by
                        exact HK.out.2
                      subst hfb
                      have HZ : Hid (FT w t M N cc E6 wr ∧ TupAt wr O8 y ∧ TL wr N8 (.slice ga nG gc) G ∧ (∀ a : FV, a ∈ E6 → OkB cc a.n) ∧ Gn G E6 ∧ (y).Wf ∧ (∀ x : TU, x ∈ G → x.Wf)) := ⟨H7.out.1.1.below HK.out.1, H7.out.1.2.1.below HK.out.1, H7.out.1.2.2.1.below HK.out.1, H7.out.1.2.2.2⟩
                      have HNZ : Hid (G.length ≤ i + 1 ∧ G.length ≤ 400 ∧ N8 ≤ wr.heap.size) := ⟨HEND.out.1, HEND.out.2.1, Nat.le_trans H7.out.2.1 HK.out.1.size⟩
                      clear hkn hk HK
                      go_wp2_with fail
                      go_roundw
                      case rel => exact ⟨i + 1, E6, G, y, by first | rfl | go_num, by have := HLT.out; omega, HNZ.out, HZ.out⟩
                      case measure => have := HLT.out; simp [intOf]; omega
            · have q3 : (kd == 3) = false := by simpa using h3
              by_cases h4 : kd = 4
              · have q4 : (kd == 4) = true := by simpa using h4
                have HK4 : Hid (kd = 4) := h4
                clear h1 h2 h3 h4
                as_aux_lemma =>
                  have QR : Hid _ := runs_any t M N cc E w w1 H1.out.1 HG.out.1 s HSW.out y H1.out.2.2.2.2.2.1
                  go_upto_region 39 with fail
                  clear c0
                  go_wp2_with (first | (refine wpList_load_stp (.tmp 10) rfl OS s rfl HSB.out rfl ?_) | (refine wpList_load_tup (.tmp 8) rfl O8 y rfl H1.out.2.1 rfl ?_))
                  refine Calls.mono QR.out ?_
                  rintro e5 w5 ⟨y5, b5, E5, rfl, _, h4, hF, _, kt⟩
                  obtain ⟨⟨n5, hE5⟩, hy5⟩ := h4 (by rw [HKD.out.1]; exact HK4.out)
                  subst hy5
                  have H5 : Hid ((FT w t M N cc E5 w5 ∧ TupAt w5 O8 y5 ∧ TL w5 N8 (.slice ga nG gc) G ∧ (∀ a : FV, a ∈ E5 → OkB cc a.n) ∧ Gn G E5 ∧ (y5).Wf ∧ (∀ x : TU, x ∈ G → x.Wf)) ∧ N8 ≤ w5.heap.size) := ⟨⟨hF, H1.out.2.1.kt kt, H1.out.2.2.1.kt kt, by rw [hE5]; exact OkB.tkn H1.out.2.2.2.1 n5, by rw [hE5]; exact H1.out.2.2.2.2.1.tkn n5, H1.out.2.2.2.2.2⟩, Nat.le_trans HN1.out.2.2 kt.size⟩
                  clear hF h4 hE5 kt QR
                  go_upto_region 8 with (first | (refine wpList_store_tup (.tmp 8) (.tmp 179) rfl rfl O8 y5 y5 rfl rfl H5.out.1.2.1 rfl ?_; intro w6 h6 k6))
                  have HZ : Hid (FT w t M N cc E5 w6 ∧ TupAt w6 O8 y5 ∧ TL w6 N8 (.slice ga nG gc) G ∧ (∀ a : FV, a ∈ E5 → OkB cc a.n) ∧ Gn G E5 ∧ (y5).Wf ∧ (∀ x : TU, x ∈ G → x.Wf)) := ⟨H5.out.1.1.chO k6 HO8.out.1 (fun q hq e => H5.out.1.1.ta.nb H5.out.1.2.1 (by decide) (by decide) (by subst e; exact hq)), h6, H5.out.1.2.2.1.ch k6 (fun q hq e => by have h1 := tl_base H5.out.1.2.2.1 hq; have h2 := HO8.out; have e' : q = O8 := e; omega), H5.out.1.2.2.2⟩
                  have HNZ : Hid (G.length ≤ i + 1 ∧ G.length ≤ 400 ∧ N8 ≤ w6.heap.size) := by have h1 := HN1.out; have h2 := HNG.out; have h3 := H5.out.2; have h4 := k6.size; show _ ∧ _ ∧ _; omega
                  clear h6 k6
                  go_wp2_with fail
                  go_roundw
                  case rel => exact ⟨i + 1, E5, G, y5, by first | rfl | go_num, by have := HLT.out; omega, HNZ.out, HZ.out⟩
                  case measure => have := HLT.out; simp [intOf]; omega
              · have q4 : (kd == 4) = false := by simpa using h4
                clear h1 h2 h3 h4
                have HZ : Hid (FT w t M N cc E w1 ∧ TupAt w1 O8 y ∧ TL w1 N8 (.slice ga nG gc) G ∧ (∀ a : FV, a ∈ E → OkB cc a.n) ∧ Gn G E ∧ (y).Wf ∧ (∀ x : TU, x ∈ G → x.Wf)) := H1.out
                have HNZ : Hid (G.length ≤ i + 1 ∧ G.length ≤ 400 ∧ N8 ≤ w1.heap.size) := by have h1 := HN1.out; have h2 := HNG.out; show _ ∧ _ ∧ _; omega
                as_aux_lemma =>
                  go_wp2_with fail
                  go_roundw
                  case rel => exact ⟨i + 1, E, G, y, by first | rfl | go_num, by have := HLT.out; omega, HNZ.out, HZ.out⟩
                  case measure => have := HLT.out; simp [intOf]; omega
    · as_aux_lemma =>
        have HE : Hid (Below w.heap.size w wr) := HI.out.1.bel
        by_cases hlt : i < len
        · have h400 : ¬ i < 400 := fun h => hgo ⟨hlt, h⟩
          have p1 : decide ((i : Int) < (len : Int)) = true := decide_eq_true (by omega)
          have p2 : decide (i < len) = true := decide_eq_true hlt
          have p3 : decide ((i : Int) < 400) = false := decide_eq_false (by omega)
          have p4 : decide (i < 400) = false := decide_eq_false h400
          clear hgo hlt h400 hi
          go_wp2_with fail
          go_ret
          exact ⟨rfl, HE.out⟩
        · have p1 : decide ((i : Int) < (len : Int)) = false := decide_eq_false (by omega)
          have p2 : decide (i < len) = false := decide_eq_false hlt
          clear hgo hlt hi
          go_wp2_with fail
          go_ret
          exact ⟨rfl, HE.out⟩
end Go.Proofs.YtclpeepnngegaaaDoor
