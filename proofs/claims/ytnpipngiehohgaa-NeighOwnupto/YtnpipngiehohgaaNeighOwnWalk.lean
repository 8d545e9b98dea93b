/-
  NeighOwn: the walk.
-/
import Derived.Test.YtnpipngiehohgaaNoN
import Derived.Deep.CutBlock
import Derived.Deep.DeepCutAuto
namespace Go.Proofs.Ytnpipngiehohgaa
open Go.RowKit Go.Maps No

theorem ln_below {w w' : World} {v : Value} {l : List Int} (h : LnAt w v l) (b : Below w.heap.size w w') : LnAt w' v l := (Ch.ofBelow (S := fun _ => False) b).owns h (fun _ _ => id)
set_option maxHeartbeats 12800000 in
set_option maxRecDepth 100000 in
theorem neighOwn.walk (w : World) (c : CF) (a : Option Addr) (len cap : Nat) (ops : List OV) (hl : ops.length = len) (hs : ListG 27 ocL OpOk w a ops) (hn : len ≤ 1048576) : Calls Try.prog 6 #[.agg (cfC c), .slice a len cap] w fun e w' => e = .returned (.bool true) ∧ Below w.heap.size w w' := by
  have HS : Hid (ListG 27 ocL OpOk w a ops ∧ ops.length = len ∧ len ≤ 1048576) := ⟨hs, hl, hn⟩
  clear hs hl hn
  have hb := cfg_new w c
  have bel : Below w.heap.size w (w.alloc (.cells (cfC c) 23)) := (Below.refl _ _).alloc (Nat.le_refl _) _
  obtain ⟨CX, hC⟩ : ∃ C, C = cfC c := ⟨_, rfl⟩
  obtain ⟨W, hW⟩ : ∃ W, W = w.alloc (.cells (cfC c) 23) := ⟨_, rfl⟩
  rw [← hW] at hb bel
  obtain ⟨B, hB⟩ : ∃ B, B = w.heap.size := ⟨_, rfl⟩
  rw [← hB] at hb
  have HBX : Hid (CfgAt W B c) := hb
  rw [← hC] at hW ⊢
  have HOX : Hid (w.heap.size = B) := hB.symm
  have HLX : Hid (Below w.heap.size w W) := bel
  have HWX : Hid (w.alloc (.cells CX 23) = W) := hW.symm
  clear hb hW hB hC bel
  have QC : Hid (∀ x, Calls Try.prog 13 #[.agg (cfC c)] x _) := fun x => cache_any c x
  obtain ⟨d, hd⟩ : ∃ d, d = cfR c := ⟨_, rfl⟩
  rw [← hd] at QC
  clear hd
  go_enter Try.func6, Try.ntmps6
  go_upto_region 1 with fail
  rw [HOX.out, HWX.out]
  go_wp2_with (first | (refine wpList_load_cfg (.tmp 2) rfl B c rfl HBX.out rfl ?_))
  refine Calls.mono (QC.out W) ?_
  rintro e w1 ⟨t, M, rfl, hL⟩
  have H1 : Hid (LSt w t M d [] w1 ∧ CfgAt w1 B c) := ⟨hL.back HLX.out, HBX.out.below hL.bel⟩
  clear hL HBX HWX HLX
  go_wp2_with (first | (refine wpList_alloc_cfg rfl rfl ?_) | (refine wpList_store_cfg (.tmp 6) (.tmp 27) rfl rfl w1.heap.size cz d rfl rfl (cfg_new w1 cz) rfl ?_))
  intro w2 hs ks
  have bs : Below w1.heap.size w1 w2 := boxed_below ks (fun q e => by have e' : q = w1.heap.size := e; omega)
  obtain ⟨O6, hO⟩ : ∃ O, O = w1.heap.size := ⟨_, rfl⟩
  rw [← hO] at hs ⊢
  have H2 : Hid (LSt w t M d [] w2 ∧ CfgAt w2 B c) := ⟨H1.out.1.below bs, H1.out.2.below bs⟩
  clear hs ks bs hO H1
  go_wp2_with (first | (refine wpList_load_cfg (.tmp 2) rfl B c rfl H2.out.2 rfl ?_))
  refine Calls.mono (QC.out w2) ?_
  rintro e w3 ⟨p, Q, rfl, hL⟩
  have H3 : Hid (LSt w t M d [] w3 ∧ LSt w p Q d [] w3 ∧ (∀ q, CB t M [] q → q < w2.heap.size) ∧ (∀ q, CB p Q [] q → w2.heap.size ≤ q)) := ⟨H2.out.1.below hL.bel, hL.back H2.out.1.bel, H2.out.1.ca.tlt, hL.out⟩
  clear hL QC H2
  go_wp2_with (first | (refine wpList_alloc_cfg rfl rfl ?_) | (refine wpList_store_cfg (.tmp 8) (.tmp 32) rfl rfl w3.heap.size cz d rfl rfl (cfg_new w3 cz) rfl ?_))
  intro w4 hs ks
  have bs : Below w3.heap.size w3 w4 := boxed_below ks (fun q e => by have e' : q = w3.heap.size := e; omega)
  obtain ⟨O8, hO⟩ : ∃ O, O = w3.heap.size := ⟨_, rfl⟩
  rw [← hO] at hs ⊢
  have H4 : Hid (LSt w t M d [] w4 ∧ LSt w p Q d [] w4 ∧ (∀ q, CB t M [] q → q < w2.heap.size) ∧ (∀ q, CB p Q [] q → w2.heap.size ≤ q)) := ⟨H3.out.1.below bs, H3.out.2.1.below bs, H3.out.2.2⟩
  clear hs ks bs hO H3
  go_wp2_with fail
  refine Calls.mono (first_any2 H4.out.1) ?_
  rintro r w5 ⟨rfl, e1, he1, hL, hch, hq⟩
  have H5 : Hid (LSt w t M d [e1] w5 ∧ LSt w p Q d [] w5 ∧ (∀ q, CB t M [] q → q < w2.heap.size) ∧ (∀ q, CB p Q [] q → w2.heap.size ≤ q) ∧ e1.n = fN ∧ (∀ q, CB t M [e1] q → CB t M [] q ∨ w4.heap.size ≤ q) ∧ (∀ q, CB p Q [] q → q < w4.heap.size)) := by
    have h4 := H4.out
    have e0 : ∀ q, CB p Q [] q → ¬ CB t M [] q := fun q k1 k2 => by have := h4.2.2.2 q k1; have := h4.2.2.1 q k2; omega
    exact ⟨hL, h4.2.1.ch hch e0 h4.1.out, h4.2.2.1, h4.2.2.2, he1, hq, h4.2.1.ca.tlt⟩
  clear he1 hL hch hq H4
  go_wp2_with fail
  refine Calls.mono (first_any2 H5.out.2.1) ?_
  rintro r w6 ⟨rfl, e2, he2, hL, hch, hq⟩
  have h5 := H5.out
  obtain ⟨g1, g2⟩ := pn_start (W := w) h5.2.2.1 h5.2.2.2.1 h5.2.2.2.2.2.2 h5.1 h5.2.2.2.2.2.1 hch hq h5.2.1.out
  have H6 : Hid (LSt w t M d [e1] w6 ∧ LSt w p Q d [e2] w6 ∧ (∀ q, CB t M [e1] q → ¬ CB p Q [e2] q) ∧ Al [e1] [e2]) := ⟨g1, hL, g2, al_one h5.2.2.2.2.1 he2⟩
  clear g1 g2 h5 he2 hL hch hq H5
  go_upto_region 5 with fail
  have hbw : Below w6.heap.size w6 (w6.alloc (.cells #[.slice none 0 0, .slice none 0 0, .slice none 0 0] 69)) := (Below.refl _ _).alloc (Nat.le_refl _) _
  obtain ⟨w7, hw7⟩ : ∃ x, x = w6.alloc (.cells #[.slice none 0 0, .slice none 0 0, .slice none 0 0] 69) := ⟨_, rfl⟩
  have hbk := bk_new w6 w7 hw7.symm
  rw [← hw7] at hbw
  obtain ⟨BK, hBK⟩ : ∃ x, x = w6.heap.size := ⟨_, rfl⟩
  have H7 : Hid (Duo w t M p Q d [e1] [e2] BK bz w7 ∧ Al [e1] [e2]) := by
    have h6 := H6.out
    rw [← hBK] at hbk
    exact ⟨⟨h6.1.below hbw, h6.2.1.below hbw, hbk, h6.2.2.1, fun q k1 k2 => by rw [bz_bb k2] at k1; have := h6.1.ca.tlt BK k1; omega, fun q k1 k2 => by rw [bz_bb k2] at k1; have := h6.2.1.ca.tlt BK k1; omega, fun q hq => by rw [bz_bb hq, hBK]; exact h6.1.bel.size⟩, h6.2.2.2⟩
  have HW7 : Hid (w6.alloc (.cells #[.slice none 0 0, .slice none 0 0, .slice none 0 0] 69) = w7 ∧ w6.heap.size = BK) := ⟨hw7.symm, hBK.symm⟩
  clear hbw hw7 hbk hBK H6
  go_upto_region 6 with fail
  rw [HW7.out.1, HW7.out.2]
  clear HW7
  go_wp2
  go_loopw [10] (fun ix wr => ∃ (i : Nat) (E F : List EV) (b : BV), ix = .int .i64 i ∧ i ≤ len ∧ Hid (Duo w t M p Q d E F BK b wr ∧ Al E F ∧ (∃ N, Rep E N) ∧ b.N.length = b.I.length ∧ b.A.length = b.I.length ∧ b.I.length = 3 * i ∧ i ≤ 150)) (fun ix _ => len - (intOf ix).toNat)
  case atStart => exact ⟨0, [e1], [e2], bz, rfl, by omega, H7.out.1, H7.out.2, ⟨_, rep_one⟩, rfl, rfl, rfl, by omega⟩
  case round =>
    obtain ⟨i, E, F, b, rfl, hi, ST⟩ := hrel
    clear H7
    have k2 : ((i : Int)).toNat = i := by omega
    by_cases hlt : i < len
    · have k0 : (0 : Int) ≤ (i : Int) := by omega
      have k1 : (i : Int) < (len : Int) := by omega
      by_cases h15 : i < 150
      · have k5 : (i : Int) < 150 := by omega
        have wi : IntKind.i64.wrap ((i : Int) + 1) = (i : Int) + 1 := by rw [IntKind.wrap_i64]; omega
        obtain ⟨o, hok, g, off, rfl, hrg⟩ := op_at HS.out.1 ST.out.1.k0.bel i (by rw [HS.out.2.1]; exact hlt)
        have HRG : Hid (wr.rangeAt g (off + i * 27) (opC o).toList) := hrg
        have HLT : Hid (i < len) := hlt
        have HL5 : Hid (i + 1 ≤ 150) := h15
        have HOK : Hid (OpOk o) := hok
        have HA : Hid (Al E F ∧ ∃ N, Rep E N) := ⟨ST.out.2.1, ST.out.2.2.1⟩
        have HBL : Hid (b.N.length = b.I.length ∧ b.A.length = b.I.length ∧ b.I.length = 3 * i ∧ i ≤ 150) := ST.out.2.2.2
        clear hrg hi hok
        go_wp2_with (first | (refine wpList_mid_opv (.tmp 63) rfl g (off + i * 27) o rfl HRG.out rfl ?_) | (refine wpList_alloc_opv rfl rfl ?_) | (refine wpList_store_opv (.tmp 11) (.tmp 64) rfl rfl wr.heap.size oz o rfl rfl (opv_new wr oz) rfl ?_))
        intro x1 hs ks
        have bs : Below wr.heap.size wr x1 := boxed_below ks (fun q e => by have e' : q = wr.heap.size := e; omega)
        obtain ⟨O11, hO⟩ : ∃ O, O = wr.heap.size := ⟨_, rfl⟩
        rw [← hO] at hs ⊢
        have S1 : Hid (Duo w t M p Q d E F BK b x1 ∧ OpvAt x1 O11 o) := ⟨ST.out.1.below bs, hs⟩
        clear hs ks bs hO HRG ST
        obtain ⟨kd, hkd⟩ : ∃ kd, kd = o.kd := ⟨_, rfl⟩
        obtain ⟨pt, hpt⟩ : ∃ pt, pt = o.k.pt := ⟨_, rfl⟩
        obtain ⟨on, hon⟩ : ∃ on, on = o.n := ⟨_, rfl⟩
        have HP : Hid (kd = o.kd ∧ pt = o.k.pt ∧ on = o.n) := ⟨hkd, hpt, hon⟩
        clear hkd hpt hon
        have c0 : x1.cell? ⟨O11, 0, none⟩ = some (.int .i64 kd) := by rw [HP.out.1]; rw [S1.out.2.cell 0]; rfl
        go_upto_block 2 with fail
        clear c0
        go_cut [12, 13, 14, 15] (fun s12 s13 s14 s15 wx => TWR w t M p Q d BK b s12 s13 s14 s15 wx)
        case first =>
          as_aux_lemma =>
            by_cases h1 : kd = 1
            · have q1 : (kd == 1) = true := by simpa using h1
              clear h1
              have c2 : x1.cell? ⟨O11, 2, none⟩ = some (.int .i64 pt) := by rw [HP.out.2.1]; rw [S1.out.2.cell 2]; rfl
              have c26 : x1.cell? ⟨O11, 26, none⟩ = some (.int .i64 on) := by rw [HP.out.2.2]; rw [S1.out.2.cell 26]; rfl
              have QW : Hid _ := S1.out.1.want o.k HOK.out.k on
              rw [← HP.out.2.1] at QW
              go_wp2_with (first | (refine wpList_mid_ipr (.tmp 73) rfl O11 3 o.k.V o.k.x rfl S1.out.2.ip rfl ?_))
              refine Calls.mono QW.out ?_
              rintro r x2 ⟨m, oc, er, E', rfl, HW⟩
              have S2 : Hid (Duo w t M p Q d E' F BK b x2 ∧ OpvAt x2 O11 o ∧ WantR d E o.k on E' m oc er) := ⟨HW.out.2.1, S1.out.2.ch HW.out.2.2 (S1.out.2.not S1.out.1.k0.ca), HW.out.1⟩
              clear HW QW S1 c2 c26
              go_wp2_with (first | (refine wpList_alloc_mac rfl rfl ?_) | (refine wpList_store_mac (.tmp 16) (.tmp 78) rfl rfl x2.heap.size mz m rfl rfl (mac_new x2 mz) rfl ?_))
              intro x3 hs ks
              have bs : Below x2.heap.size x2 x3 := boxed_below ks (fun q e => by have e' : q = x2.heap.size := e; omega)
              obtain ⟨O16, hO⟩ : ∃ O, O = x2.heap.size := ⟨_, rfl⟩
              rw [← hO] at hs ⊢
              have S3 : Hid (Duo w t M p Q d E' F BK b x3 ∧ OpvAt x3 O11 o ∧ MacAt x3 O16 m ∧ WantR d E o.k on E' m oc er) := ⟨S2.out.1.below bs, S2.out.2.1.below bs, hs, S2.out.2.2⟩
              clear hs ks bs hO S2
              have c2 : x3.cell? ⟨O11, 2, none⟩ = some (.int .i64 pt) := by rw [HP.out.2.1]; rw [S3.out.2.1.cell 2]; rfl
              have c26 : x3.cell? ⟨O11, 26, none⟩ = some (.int .i64 on) := by rw [HP.out.2.2]; rw [S3.out.2.1.cell 26]; rfl
              have QW : Hid _ := S3.out.1.swap.want o.k HOK.out.k on
              rw [← HP.out.2.1] at QW
              go_wp2_with (first | (refine wpList_mid_ipr (.tmp 85) rfl O11 3 o.k.V o.k.x rfl S3.out.2.1.ip rfl ?_))
              refine Calls.mono QW.out ?_
              rintro r x4 ⟨m2, oc2, er2, F', rfl, HW⟩
              obtain ⟨e1, e2, _, hAl⟩ := want_same HA.out.1 S3.out.1.k1.ca.dj S3.out.1.k1.ca.wf S3.out.2.2.2 HW.out.1
              subst e1
              subst e2
              have S4 : Hid (Duo w t M p Q d E' F' BK b x4 ∧ MacAt x4 O16 m ∧ Al E' F') := ⟨HW.out.2.1.swap, S3.out.2.2.1.ch HW.out.2.2 (S3.out.2.2.1.not S3.out.1.k1.ca), hAl⟩
              clear HW QW S3 c2 c26 hAl
              go_wp2_with (first | (refine wpList_alloc_mac rfl rfl ?_) | (refine wpList_store_mac (.tmp 19) (.tmp 90) rfl rfl x4.heap.size mz m rfl rfl (mac_new x4 mz) rfl ?_))
              intro x5 hs ks
              have bs : Below x4.heap.size x4 x5 := boxed_below ks (fun q e => by have e' : q = x4.heap.size := e; omega)
              obtain ⟨O19, hO⟩ : ∃ O, O = x4.heap.size := ⟨_, rfl⟩
              rw [← hO] at hs ⊢
              have S5 : Hid (Duo w t M p Q d E' F' BK b x5 ∧ MacAt x5 O16 m ∧ MacAt x5 O19 m ∧ Al E' F') := ⟨S4.out.1.below bs, S4.out.2.1.below bs, hs, S4.out.2.2⟩
              clear hs ks bs hO S4
              have hq : (oc != oc) = false := by simp
              go_wp2_with (first | (refine wpList_load_mac (.tmp 16) rfl O16 m rfl S5.out.2.1 rfl ?_) | (refine wpList_load_mac (.tmp 19) rfl O19 m rfl S5.out.2.2.1 rfl ?_) | (refine wpList_neq_mac0 (.tmp 93) (.tmp 94) rfl m rfl rfl rfl ?_))
              go_meet
              exact twr_no S5.out.1 S5.out.2.2.2
            · have q1 : (kd == 1) = false := by simpa using h1
              by_cases h2 : kd = 2
              · have q2 : (kd == 2) = true := by simpa using h2
                clear h1 h2
                have c2 : x1.cell? ⟨O11, 2, none⟩ = some (.int .i64 pt) := by rw [HP.out.2.1]; rw [S1.out.2.cell 2]; rfl
                have c26 : x1.cell? ⟨O11, 26, none⟩ = some (.int .i64 on) := by rw [HP.out.2.2]; rw [S1.out.2.cell 26]; rfl
                have QL : Hid _ := S1.out.1.learn o.k HOK.out.k o.m HOK.out.m on
                rw [← HP.out.2.1] at QL
                go_wp2_with (first | (refine wpList_mid_ipr (.tmp 107) rfl O11 3 o.k.V o.k.x rfl S1.out.2.ip rfl ?_) | (refine wpList_mid_mac (.tmp 109) rfl O11 20 o.m rfl S1.out.2.mac rfl ?_))
                refine Calls.mono QL.out ?_
                rintro r x2 ⟨va, n, vc, er, rfl, HL⟩
                obtain ⟨l, E', hn, hn2, hR, hPN, hLn, hFr, hch, hpo⟩ := HL.out
                have S2 : Hid (Duo w t M p Q d E' F BK b x2 ∧ OpvAt x2 O11 o ∧ LnAt x2 (.slice va n vc) l ∧ Fr w (PO t M p Q E' F BK b) x2 (.slice va n vc) ∧ LearnR d E o.k o.m on E' (.slice va n vc) l er ∧ l.length = n ∧ n ≤ 64) := ⟨hPN, S1.out.2.ch hch (S1.out.2.not S1.out.1.k0.ca), hLn, hFr, hR, hn, hn2⟩
                clear HL QL S1 c2 c26 hn hn2 hR hPN hLn hFr hch hpo
                have c2 : x2.cell? ⟨O11, 2, none⟩ = some (.int .i64 pt) := by rw [HP.out.2.1]; rw [S2.out.2.1.cell 2]; rfl
                have c26 : x2.cell? ⟨O11, 26, none⟩ = some (.int .i64 on) := by rw [HP.out.2.2]; rw [S2.out.2.1.cell 26]; rfl
                have QL : Hid _ := S2.out.1.swap.learn o.k HOK.out.k o.m HOK.out.m on
                rw [← HP.out.2.1] at QL
                go_wp2_with (first | (refine wpList_mid_ipr (.tmp 120) rfl O11 3 o.k.V o.k.x rfl S2.out.2.1.ip rfl ?_) | (refine wpList_mid_mac (.tmp 122) rfl O11 20 o.m rfl S2.out.2.1.mac rfl ?_))
                refine Calls.mono QL.out ?_
                rintro r x3 ⟨ja, nj, jc, er2, rfl, HL⟩
                obtain ⟨l2, F', hn, _, hR, hPN, hLn, _, hch, hpo⟩ := HL.out
                obtain ⟨e1, _, hAl⟩ := learn_same HA.out.1 S2.out.1.k1.ca.dj S2.out.1.k1.ca.wf S2.out.2.2.2.2.1 hR
                have HG : Hid (TWR w t M p Q d BK b (.slice va n vc) (.slice ja nj jc) (.slice none 0 0) (.slice none 0 0) x3) := twr_learn hPN.swap hAl e1 S2.out.2.2.2.2.2.1 hn S2.out.2.2.2.2.2.2 (hch.owns S2.out.2.2.1 (fun g hg k => (S2.out.2.2.2.1 g hg).2.2 (.inr (.inl k)))) hLn (S2.out.2.2.2.1.go hch.size (fun g hg => (hpo g (po_swap.1 hg)).imp po_swap.2 id))
                clear HL QL S2 c2 c26 hn hR hPN hLn hch hpo e1 hAl
                go_wp2
                go_meet
                exact HG.out
              · have q2 : (kd == 2) = false := by simpa using h2
                by_cases h3 : kd = 3
                · have q3 : (kd == 3) = true := by simpa using h3
                  clear h1 h2 h3
                  have QT : Hid _ := S1.out.1.tick
                  go_wp2_with fail
                  refine Calls.mono QT.out ?_
                  rintro r x2 ⟨aa, na, ac, va, n, vc, rfl, HL⟩
                  obtain ⟨Kd, A, l, hna, hn, hna2, hn2, hA, hl, hp, hs, hPN, hAL, hLn, fA, fL, hch, hpo⟩ := HL.out
                  have S2 : Hid (Duo w t M p Q d (E.filterMap (tickE d)) F BK b x2 ∧ (A.length = na ∧ l.length = n ∧ na ≤ 1024 ∧ n ≤ 65536) ∧ (A = asksL d (E.map (ag1 d)) Kd ∧ l = lostL d (E.map (ag1 d)) Kd ∧ Kd.Perm (dueL d E) ∧ Kd.Pairwise (fun a b => 0 ≤ ordV b a)) ∧ AL x2 0 (.slice aa na ac) A ∧ LnAt x2 (.slice va n vc) l ∧ Fr w (PO t M p Q (E.filterMap (tickE d)) F BK b) x2 (.slice aa na ac) ∧ Fr w (PO t M p Q (E.filterMap (tickE d)) F BK b) x2 (.slice va n vc)) := ⟨hPN, ⟨hna, hn, hna2, hn2⟩, ⟨hA, hl, hp, hs⟩, hAL, hLn, fA, fL⟩
                  have HDJ : Hid (Dj E) := S1.out.1.k0.ca.dj
                  clear HL QT S1 hna hn hna2 hn2 hA hl hp hs hPN hAL hLn fA fL hch hpo
                  have QT : Hid _ := S2.out.1.swap.tick
                  go_wp2_with fail
                  refine Calls.mono QT.out ?_
                  rintro r x3 ⟨za, nz, zc, ja, nj, jc, rfl, HL⟩
                  obtain ⟨Kd2, A2, l2, hna, hn, _, _, hA, hl, hp, hs, hPN, hAL, hLn, _, _, hch, hpo⟩ := HL.out
                  obtain ⟨NR, hNR⟩ := HA.out.2
                  obtain ⟨e1, e2⟩ := tick_same HA.out.1 HDJ.out S2.out.1.k1.ca.dj hNR S2.out.2.2.1.2.2.1 S2.out.2.2.1.2.2.2 hp hs
                  have HG : Hid (TWR w t M p Q d BK b (.slice va n vc) (.slice ja nj jc) (.slice aa na ac) (.slice za nz zc) x3) := twr_tick hPN.swap (HA.out.1.tick d) (by rw [S2.out.2.2.1.2.1, hl]; exact e2) (by rw [S2.out.2.2.1.1, hA]; exact e1) S2.out.2.1.2.1 hn S2.out.2.1.2.2.2 S2.out.2.1.1 hna S2.out.2.1.2.2.1 (hch.owns S2.out.2.2.2.2.1 (fun g hg k => (S2.out.2.2.2.2.2.2 g hg).2.2 (.inr (.inl k)))) hLn (S2.out.2.2.2.1.ch hch (fun g hg k => (S2.out.2.2.2.2.2.1 g hg).2.2 (.inr (.inl k)))) hAL (S2.out.2.2.2.2.2.2.go hch.size (fun g hg => (hpo g (po_swap.1 hg)).imp po_swap.2 id)) (S2.out.2.2.2.2.2.1.go hch.size (fun g hg => (hpo g (po_swap.1 hg)).imp po_swap.2 id))
                  clear HL QT S2 hna hn hA hl hp hs hPN hAL hLn hch hpo e1 e2 hNR HDJ
                  go_wp2
                  go_meet
                  exact HG.out
                · have q3 : (kd == 3) = false := by simpa using h3
                  clear h1 h2 h3
                  go_wp2
                  go_meet
                  exact twr_no S1.out.1 HA.out.1
        case rest =>
          clear S1
          as_aux_lemma =>
            obtain ⟨ia, ni, ic, ja, jc, aa, na, ac, za, zc, rfl, rfl, rfl, rfl, HT⟩ := hcut
            obtain ⟨E1, F1, L, A, e1, e2, e3, e4, hPN, hAl, hI, hJ, hA, hZ, fI, fA⟩ := HT
            obtain ⟨y0, hy0⟩ : ∃ y, y = wc := ⟨_, rfl⟩
            rw [← hy0] at hPN hI hJ hA hZ fI fA ⊢
            have R0 : Hid (Duo w t M p Q d E1 F1 BK b y0 ∧ Al E1 F1 ∧ (L.length = ni ∧ A.length = na ∧ ni ≤ 65536 ∧ na ≤ 1024) ∧ (LnAt y0 (.slice ia ni ic) L ∧ LnAt y0 (.slice ja ni jc) L ∧ AL y0 0 (.slice aa na ac) A ∧ AL y0 0 (.slice za na zc) A) ∧ Fr w (PO t M p Q E1 F1 BK b) y0 (.slice ia ni ic) ∧ Fr w (PO t M p Q E1 F1 BK b) y0 (.slice aa na ac)) := ⟨hPN, hAl, ⟨e1, e2, e3, e4⟩, ⟨hI, hJ, hA, hZ⟩, fI, fA⟩
            clear e1 e2 e3 e4 hPN hAl hI hJ hA hZ fI fA hy0 HA
            have QA : Hid _ := R0.out.1.all
            go_wp2_with fail
            refine Calls.mono QA.out ?_
            rintro r y1 ⟨va, nv, vc, rfl, HS⟩
            obtain ⟨S, hS, s1, s2, s3, s4, s5, s6⟩ := HS.out
            have R1 : Hid (Duo w t M p Q d E1 F1 BK b y1 ∧ Al E1 F1 ∧ (L.length = ni ∧ A.length = na ∧ ni ≤ 65536 ∧ na ≤ 1024) ∧ (LnAt y1 (.slice ia ni ic) L ∧ LnAt y1 (.slice ja ni jc) L ∧ AL y1 0 (.slice aa na ac) A ∧ AL y1 0 (.slice za na zc) A) ∧ Fr w (PO t M p Q E1 F1 BK b) y1 (.slice ia ni ic) ∧ Fr w (PO t M p Q E1 F1 BK b) y1 (.slice aa na ac) ∧ NL y1 0 (.slice va nv vc) (S.map (fun e => e.n.nb)) ∧ Fr w (PO t M p Q E1 F1 BK b) y1 (.slice va nv vc)) := ⟨s5, R0.out.2.1, R0.out.2.2.1, ⟨ln_below R0.out.2.2.2.1.1 s6, ln_below R0.out.2.2.2.1.2.1 s6, R0.out.2.2.2.1.2.2.1.below s6, R0.out.2.2.2.1.2.2.2.below s6⟩, R0.out.2.2.2.2.1.go s6.size (fun g hg => .inl hg), R0.out.2.2.2.2.2.go s6.size (fun g hg => .inl hg), s3, s4⟩
            have HSR : Hid (Srt E1 S ∧ S.length = nv ∧ nv ≤ 1024) := ⟨hS, s1, s2⟩
            clear hS s1 s2 s3 s4 s5 s6 HS QA R0
            have QS : Hid _ := sameInts_any ia ja ic jc L L y1 (LnAt.seg R1.out.2.2.2.1.1) (LnAt.seg R1.out.2.2.2.1.2.1) (by have := R1.out.2.2.1; omega)
            rw [R1.out.2.2.1.1] at QS
            go_wp2_with fail
            refine Calls.mono QS.out ?_
            rintro r y2 ⟨rfl, bq⟩
            have R2 : Hid (Duo w t M p Q d E1 F1 BK b y2 ∧ Al E1 F1 ∧ (L.length = ni ∧ A.length = na ∧ ni ≤ 65536 ∧ na ≤ 1024) ∧ (LnAt y2 (.slice ia ni ic) L ∧ AL y2 0 (.slice aa na ac) A ∧ AL y2 0 (.slice za na zc) A) ∧ Fr w (PO t M p Q E1 F1 BK b) y2 (.slice ia ni ic) ∧ Fr w (PO t M p Q E1 F1 BK b) y2 (.slice aa na ac) ∧ NL y2 0 (.slice va nv vc) (S.map (fun e => e.n.nb)) ∧ Fr w (PO t M p Q E1 F1 BK b) y2 (.slice va nv vc)) := ⟨R1.out.1.below bq, R1.out.2.1, R1.out.2.2.1, ⟨ln_below R1.out.2.2.2.1.1 bq, R1.out.2.2.2.1.2.2.1.below bq, R1.out.2.2.2.1.2.2.2.below bq⟩, R1.out.2.2.2.2.1.go bq.size (fun g hg => .inl hg), R1.out.2.2.2.2.2.1.go bq.size (fun g hg => .inl hg), R1.out.2.2.2.2.2.2.1.below bq, R1.out.2.2.2.2.2.2.2.go bq.size (fun g hg => .inl hg)⟩
            clear bq QS R1
            simp only [decide_true]
            go_wp2_with fail
            refine Calls.mono (sameAsks_true _ _ A 0 0 y2 R2.out.2.2.2.1.2.1 R2.out.2.2.2.1.2.2 (by have := R2.out.2.2.1; omega)) ?_
            rintro r y3 ⟨rfl, bq⟩
            have R3 : Hid (Duo w t M p Q d E1 F1 BK b y3 ∧ Al E1 F1 ∧ (L.length = ni ∧ A.length = na ∧ ni ≤ 65536 ∧ na ≤ 1024) ∧ (LnAt y3 (.slice ia ni ic) L ∧ AL y3 0 (.slice aa na ac) A) ∧ Fr w (PO t M p Q E1 F1 BK b) y3 (.slice ia ni ic) ∧ Fr w (PO t M p Q E1 F1 BK b) y3 (.slice aa na ac) ∧ NL y3 0 (.slice va nv vc) (S.map (fun e => e.n.nb)) ∧ Fr w (PO t M p Q E1 F1 BK b) y3 (.slice va nv vc)) := ⟨R2.out.1.below bq, R2.out.2.1, R2.out.2.2.1, ⟨ln_below R2.out.2.2.2.1.1 bq, R2.out.2.2.2.1.2.1.below bq⟩, R2.out.2.2.2.2.1.go bq.size (fun g hg => .inl hg), R2.out.2.2.2.2.2.1.go bq.size (fun g hg => .inl hg), R2.out.2.2.2.2.2.2.1.below bq, R2.out.2.2.2.2.2.2.2.go bq.size (fun g hg => .inl hg)⟩
            clear bq R2
            have QA : Hid _ := R3.out.1.swap.all
            go_wp2_with fail
            refine Calls.mono QA.out ?_
            rintro r y4 ⟨ta, nt, tc, rfl, HS⟩
            obtain ⟨T, hS, s1, s2, s3, s4, s5, s6⟩ := HS.out
            rw [all_nb R3.out.2.1 HSR.out.1 hS] at s3
            have R4 : Hid (Duo w t M p Q d E1 F1 BK b y4 ∧ Al E1 F1 ∧ (L.length = ni ∧ A.length = na ∧ ni ≤ 65536 ∧ na ≤ 1024) ∧ (LnAt y4 (.slice ia ni ic) L ∧ AL y4 0 (.slice aa na ac) A) ∧ Fr w (PO t M p Q E1 F1 BK b) y4 (.slice ia ni ic) ∧ Fr w (PO t M p Q E1 F1 BK b) y4 (.slice aa na ac) ∧ NL y4 0 (.slice va nv vc) (S.map (fun e => e.n.nb)) ∧ Fr w (PO t M p Q E1 F1 BK b) y4 (.slice va nv vc) ∧ NL y4 0 (.slice ta nt tc) (S.map (fun e => e.n.nb))) := ⟨s5.swap, R3.out.2.1, R3.out.2.2.1, ⟨ln_below R3.out.2.2.2.1.1 s6, R3.out.2.2.2.1.2.below s6⟩, R3.out.2.2.2.2.1.go s6.size (fun g hg => .inl hg), R3.out.2.2.2.2.2.1.go s6.size (fun g hg => .inl hg), R3.out.2.2.2.2.2.2.1.below s6, R3.out.2.2.2.2.2.2.2.go s6.size (fun g hg => .inl hg), s3⟩
            clear hS s1 s2 s3 s4 s5 s6 HS QA R3
            go_wp2_with fail
            refine Calls.mono (sameAll_true _ _ (S.map (fun e => e.n.nb)) 0 0 y4 R4.out.2.2.2.2.2.2.1 R4.out.2.2.2.2.2.2.2.2 (by rw [List.length_map]; have := HSR.out.2; omega)) ?_
            rintro r y5 ⟨rfl, bq⟩
            have QK : Hid _ := (R4.out.1.below bq).keep ⟨HBL.out.1, HBL.out.2.1, by have := HBL.out.2.2.1; omega⟩ (by have := HBL.out.2.2; omega) ia va aa ni ic nv vc na ac L (S.map (fun e => e.n.nb)) A (ln_below R4.out.2.2.2.1.1 bq) R4.out.2.2.1.1 (R4.out.2.2.2.2.2.2.1.below bq) (by rw [List.length_map]; exact HSR.out.2.1) (R4.out.2.2.2.1.2.below bq) R4.out.2.2.1.2.1 ⟨R4.out.2.2.1.2.2.1, HSR.out.2.2, R4.out.2.2.1.2.2.2⟩ (R4.out.2.2.2.2.1.go bq.size (fun g hg => .inl hg)) (R4.out.2.2.2.2.2.2.2.1.go bq.size (fun g hg => .inl hg)) (R4.out.2.2.2.2.2.1.go bq.size (fun g hg => .inl hg))
            have HAl : Hid (Al E1 F1) := R4.out.2.1
            clear bq R4
            go_wp2_with fail
            refine Calls.mono QK.out ?_
            rintro r y6 ⟨rfl, HK⟩
            obtain ⟨b2, k1, k2, k3, k4⟩ := HK.out
            have R6 : Hid (Duo w t M p Q d E1 F1 BK b2 y6 ∧ Al E1 F1 ∧ (∃ N, Rep E1 N) ∧ b2.N.length = b2.I.length ∧ b2.A.length = b2.I.length ∧ b2.I.length = 3 * (i + 1) ∧ i + 1 ≤ 150) := ⟨k1, HAl.out, ⟨_, HSR.out.1.rep⟩, k2, k3, by rw [k4, HBL.out.2.2.1]; omega, HL5.out⟩
            clear k1 k2 k3 k4 HK QK HAl HSR HBL
            go_wp2_with fail
            refine Calls.mono (stands_any y6 BK b2 R6.out.1.bk ⟨R6.out.2.2.2.1, R6.out.2.2.2.2.1⟩ (by have := R6.out.2.2.2.2.2; omega)) ?_
            rintro r y7 ⟨rfl, rfl⟩
            go_wp2_with fail
            go_roundw
            case rel => exact ⟨i + 1, E1, F1, b2, by first | rfl | go_num, by have := HLT.out; omega, R6⟩
            case measure => have := HLT.out; simp [intOf]; omega
      · have k5 : ¬ ((i : Int) < 150) := by omega
        as_aux_lemma =>
          have QA : Hid _ := ST.out.1.all
          go_wp2_with fail
          refine Calls.mono QA.out ?_
          rintro r y1 ⟨va, nv, vc, rfl, HS⟩
          obtain ⟨S, hS, s1, s2, s3, s4, s5, s6⟩ := HS.out
          have R1 : Hid (Duo w t M p Q d E F BK b y1 ∧ Al E F ∧ NL y1 0 (.slice va nv vc) (S.map (fun e => e.n.nb)) ∧ Srt E S ∧ S.length = nv ∧ nv ≤ 1024) := ⟨s5, ST.out.2.1, s3, hS, s1, s2⟩
          clear hS s1 s2 s3 s4 s5 s6 HS QA ST
          have QA : Hid _ := R1.out.1.swap.all
          go_wp2_with fail
          refine Calls.mono QA.out ?_
          rintro r y2 ⟨ta, nt, tc, rfl, HS⟩
          obtain ⟨T, hS, s1, s2, s3, s4, s5, s6⟩ := HS.out
          rw [all_nb R1.out.2.1 R1.out.2.2.2.1 hS] at s3
          have R2 : Hid (Duo w t M p Q d E F BK b y2 ∧ Al E F ∧ NL y2 0 (.slice va nv vc) (S.map (fun e => e.n.nb)) ∧ NL y2 0 (.slice ta nt tc) (S.map (fun e => e.n.nb)) ∧ Srt E S ∧ S.length = nv ∧ nv ≤ 1024) := ⟨s5.swap, R1.out.2.1, R1.out.2.2.1.below s6, s3, R1.out.2.2.2⟩
          clear hS s1 s2 s3 s4 s5 s6 HS QA R1
          go_wp2_with fail
          refine Calls.mono (sameAll_true _ _ (S.map (fun e => e.n.nb)) 0 0 y2 R2.out.2.2.1 R2.out.2.2.2.1 (by rw [List.length_map]; have := R2.out.2.2.2.2.2; omega)) ?_
          rintro r y3 ⟨rfl, bq⟩
          obtain ⟨nw, hnw⟩ : ∃ nw : Nat, nw = waitN E := ⟨_, rfl⟩
          have HNW : Hid (nw = waitN F ∧ nw = waitN E) := ⟨hnw.trans (wait_same R2.out.2.1 R2.out.2.2.2.2.1), hnw⟩
          have R3 : Hid (Duo w t M p Q d E F BK b y3) := R2.out.1.below bq
          clear bq R2 hnw
          have QV : Hid _ := R3.out.k0.waiting
          rw [← HNW.out.2] at QV
          go_wp2_with fail
          refine Calls.mono QV.out ?_
          rintro r y4 ⟨rfl, _, bq⟩
          have R4 : Hid (Duo w t M p Q d E F BK b y4) := R3.out.below bq
          clear bq R3 QV
          have QV : Hid _ := R4.out.k1.waiting
          rw [← HNW.out.1] at QV
          go_wp2_with fail
          refine Calls.mono QV.out ?_
          rintro r y5 ⟨rfl, _, bq⟩
          have R5 : Hid (Below w.heap.size w y5) := bthen R4.out.k0.bel bq
          clear bq R4 QV
          have hnn : ((nw : Int) == (nw : Int)) = true := by simp
          go_wp2_with fail
          go_ret
          exact ⟨rfl, R5.out⟩
    · have k1 : ¬ ((i : Int) < (len : Int)) := by omega
      as_aux_lemma =>
        have QA : Hid _ := ST.out.1.all
        go_wp2_with fail
        refine Calls.mono QA.out ?_
        rintro r y1 ⟨va, nv, vc, rfl, HS⟩
        obtain ⟨S, hS, s1, s2, s3, s4, s5, s6⟩ := HS.out
        have R1 : Hid (Duo w t M p Q d E F BK b y1 ∧ Al E F ∧ NL y1 0 (.slice va nv vc) (S.map (fun e => e.n.nb)) ∧ Srt E S ∧ S.length = nv ∧ nv ≤ 1024) := ⟨s5, ST.out.2.1, s3, hS, s1, s2⟩
        clear hS s1 s2 s3 s4 s5 s6 HS QA ST
        have QA : Hid _ := R1.out.1.swap.all
        go_wp2_with fail
        refine Calls.mono QA.out ?_
        rintro r y2 ⟨ta, nt, tc, rfl, HS⟩
        obtain ⟨T, hS, s1, s2, s3, s4, s5, s6⟩ := HS.out
        rw [all_nb R1.out.2.1 R1.out.2.2.2.1 hS] at s3
        have R2 : Hid (Duo w t M p Q d E F BK b y2 ∧ Al E F ∧ NL y2 0 (.slice va nv vc) (S.map (fun e => e.n.nb)) ∧ NL y2 0 (.slice ta nt tc) (S.map (fun e => e.n.nb)) ∧ Srt E S ∧ S.length = nv ∧ nv ≤ 1024) := ⟨s5.swap, R1.out.2.1, R1.out.2.2.1.below s6, s3, R1.out.2.2.2⟩
        clear hS s1 s2 s3 s4 s5 s6 HS QA R1
        go_wp2_with fail
        refine Calls.mono (sameAll_true _ _ (S.map (fun e => e.n.nb)) 0 0 y2 R2.out.2.2.1 R2.out.2.2.2.1 (by rw [List.length_map]; have := R2.out.2.2.2.2.2; omega)) ?_
        rintro r y3 ⟨rfl, bq⟩
        obtain ⟨nw, hnw⟩ : ∃ nw : Nat, nw = waitN E := ⟨_, rfl⟩
        have HNW : Hid (nw = waitN F ∧ nw = waitN E) := ⟨hnw.trans (wait_same R2.out.2.1 R2.out.2.2.2.2.1), hnw⟩
        have R3 : Hid (Duo w t M p Q d E F BK b y3) := R2.out.1.below bq
        clear bq R2 hnw
        have QV : Hid _ := R3.out.k0.waiting
        rw [← HNW.out.2] at QV
        go_wp2_with fail
        refine Calls.mono QV.out ?_
        rintro r y4 ⟨rfl, _, bq⟩
        have R4 : Hid (Duo w t M p Q d E F BK b y4) := R3.out.below bq
        clear bq R3 QV
        have QV : Hid _ := R4.out.k1.waiting
        rw [← HNW.out.1] at QV
        go_wp2_with fail
        refine Calls.mono QV.out ?_
        rintro r y5 ⟨rfl, _, bq⟩
        have R5 : Hid (Below w.heap.size w y5) := bthen R4.out.k0.bel bq
        clear bq R4 QV
        have hnn : ((nw : Int) == (nw : Int)) = true := by simp
        go_wp2_with fail
        go_ret
        exact ⟨rfl, R5.out⟩
end Go.Proofs.Ytnpipngiehohgaa
