/-
  The walk of HoleAgain.
-/
import Derived.Test.YtfahfbpobmpccaaWAg1
import Derived.Test.YtfahfbpobmpccaaRows
namespace Go.Proofs.Ytfahfbpobmpccaa
open Go.RowKit Go.Maps H11
set_option maxRecDepth 100000 in
set_option maxHeartbeats 51200000 in
theorem holeAgain.walk (W : World) (a0 : Int) (_ : (Lit.int .i64 a0).wf = true) (a : Option Addr) (len cap : Nat) (ops : List StV) (hl : ops.length = len) (hs : StsU W a ops) (_ : len ≤ 1048576) :
    Calls Try.prog 8 #[.int .i64 a0, .slice a len cap] W fun e W' => e = .returned (.bool true) ∧ Below W.heap.size W W' := by
  obtain ⟨i0, hi0, hz0, hz1, hz2⟩ := info_parts Try.infoByte
  have HPS : Hid (StsU W a ops) := hs
  have HLN : Hid (ops.length = len) := hl
  have QM2 : Hid (∀ A : World, _) := fun A => made_yes A 64 (by omega) (by omega) none none
  obtain ⟨l0, hl0, hl1⟩ := bf_zero
  have HL0 : Hid (l0.length = 8262 ∧ (toI l0).map (Value.int .u8) = (madeCells #[Value.int .u8 0] 8262).toList) := ⟨hl0, hl1⟩
  clear hl hs hl0 hl1
  by_cases hmx : 1 ≤ a0 ∧ a0 ≤ 65535
  · obtain ⟨m, hm⟩ : ∃ m : Nat, (m : Int) = a0 := ⟨a0.toNat, by omega⟩
    subst hm
    have QM : Hid _ := made_yes W m (by omega) (by omega) none none
    clear hmx
    as_aux_lemma =>
      go_enter Try.func8, Try.ntmps8
      go_wp2_with fail
      refine Calls.mono QM.out ?_
      rintro e0 w1 ⟨e1, rfl, he1, hes, hlo, hb1⟩
      have H1 : Hid (EOk w1 e1 ∧ e1.s.tk.length ≤ 2 ∧ (∀ x, EB e1 x → W.heap.size ≤ x) ∧ Below W.heap.size W w1) := ⟨he1, by rw [hes]; simp [nw], hlo, hb1⟩
      unfold pv
      clear he1 hes hlo hb1 QM
      go_upto_region 2 with fail
      obtain ⟨P5, hP5⟩ : ∃ P5, P5 = w1.heap.size := ⟨_, rfl⟩
      obtain ⟨w2, hw2⟩ : ∃ w2, w2 = w1.alloc (.cells #[.pointer (some ⟨e1.H, 0, none⟩), .pointer (some ⟨e1.R, 0, none⟩)] 56) := ⟨_, rfl⟩
      have hP : PrAt w2 P5 #[.pointer (some ⟨e1.H, 0, none⟩), .pointer (some ⟨e1.R, 0, none⟩)] := by rw [hw2, hP5]; exact PrAt_new _ _
      have HB2 : Hid (Below w1.heap.size w1 w2 ∧ w1.heap.size = P5 ∧ P5 < w2.heap.size) := ⟨by rw [hw2]; exact (Below.refl _ _).alloc (Nat.le_refl _) _, hP5.symm, by rw [hw2, hP5]; simp⟩
      rw [← hP5, ← hw2]
      clear hP5 hw2
      go_wp2_with fail
      refine Calls.mono (QM2.out w2) ?_
      rintro e9 w3 ⟨e2, rfl, he2, hes2, hlo2, hb3⟩
      have H3 : Hid (EOk w3 e2 ∧ e2.s.tk.length ≤ 2 ∧ (∀ x, EB e2 x → w2.heap.size ≤ x) ∧ Below w2.heap.size w2 w3) := ⟨he2, by rw [hes2]; simp [nw], hlo2, hb3⟩
      have hP3 := hP.below hb3
      unfold pv
      clear he2 hes2 hlo2 hb3 QM2 hP
      go_upto_region 5 with fail
      obtain ⟨P7, hP7⟩ : ∃ P7, P7 = w3.heap.size := ⟨_, rfl⟩
      obtain ⟨w4, hw4⟩ : ∃ w4, w4 = w3.alloc (.cells #[.pointer (some ⟨e2.H, 0, none⟩), .pointer (some ⟨e2.R, 0, none⟩)] 56) := ⟨_, rfl⟩
      have hQ : PrAt w4 P7 #[.pointer (some ⟨e2.H, 0, none⟩), .pointer (some ⟨e2.R, 0, none⟩)] := by rw [hw4, hP7]; exact PrAt_new _ _
      have hb4 : Below w3.heap.size w3 w4 := by rw [hw4]; exact (Below.refl _ _).alloc (Nat.le_refl _) _
      have hP4 := hP3.below hb4
      have HB4 : Hid (Below w3.heap.size w3 w4 ∧ w3.heap.size = P7) := ⟨hb4, hP7.symm⟩
      have c7 : w4.cell? ⟨P7, 0, none⟩ = some (.pointer (some ⟨e2.H, 0, none⟩)) := (hQ.cell 0).trans rfl
      rw [← hP7, ← hw4]
      clear hP7 hw4 hb4 hP3
      have H4 : Hid (EOk w4 e1 ∧ EOk w4 e2 ∧ e1.s.tk.length ≤ 2 ∧ e2.s.tk.length ≤ 2 ∧ (∀ x, EB e1 x → W.heap.size ≤ x ∧ x < P5) ∧ (∀ x, EB e2 x → w2.heap.size ≤ x ∧ x < P7) ∧ Below W.heap.size W w4 ∧ P5 < w2.heap.size ∧ w2.heap.size ≤ P7 ∧ W.heap.size ≤ P5 ∧ P7 < w4.heap.size) := by
        have g := H3.out
        have hW := H1.out.2.2.2.trans (HB2.out.1.mono H1.out.2.2.2.size)
        have hW4 := (hW.trans (g.2.2.2.mono hW.size)).trans (HB4.out.1.mono (Nat.le_trans hW.size g.2.2.2.size))
        have q2 : EOk w2 e1 := H1.out.1.below HB2.out.1
        refine ⟨(q2.below g.2.2.2).below HB4.out.1, g.1.below HB4.out.1, H1.out.2.1, g.2.1, fun x hx => ⟨H1.out.2.2.1 x hx, by rw [← HB2.out.2.1]; exact H1.out.1.lt x hx⟩, fun x hx => ⟨g.2.2.1 x hx, by rw [← HB4.out.2]; exact g.1.lt x hx⟩, hW4, HB2.out.2.2, by rw [← HB4.out.2]; exact g.2.2.2.size, by rw [← HB2.out.2.1]; exact H1.out.2.2.2.size, hQ.lt⟩
      have c5 : w4.cell? ⟨P5, 0, none⟩ = some (.pointer (some ⟨e1.H, 0, none⟩)) := (hP4.cell 0).trans rfl
      have hP9 := hP4
      have hQ9 := hQ
      clear H1 H3 HB2 HB4 hP4 hQ
      go_upto_region 9 with fail
      clear c5 c7
      go_upto_region 10 with (first | (refine wpList_load_Pr (.tmp 5) rfl P5 _ rfl rfl hP9 rfl ?_) | (refine wpList_load_Pr (.tmp 7) rfl P7 _ rfl rfl hQ9 rfl ?_))
      obtain ⟨PS, hPSe⟩ : ∃ PS, PS = w4.heap.size := ⟨_, rfl⟩
      obtain ⟨wA, hwA⟩ : ∃ wA, wA = w4.alloc (.cells (psV e1 e2) 66) := ⟨_, rfl⟩
      have hbA : Below w4.heap.size w4 wA := by rw [hwA]; exact (Below.refl _ _).alloc (Nat.le_refl _) _
      have hPA : PsAt wA PS (psV e1 e2) := by rw [hwA, hPSe]; exact heap_alloc_new _ _
      have HWA : Hid (w4.heap.size = PS ∧ wA.heap.size = PS + 1 ∧ Below w4.heap.size w4 wA) := ⟨hPSe.symm, by rw [hwA, hPSe]; simp, hbA⟩
      have e1x : w4.alloc (.cells #[.pointer (some ⟨e1.H, 0, none⟩), .pointer (some ⟨e1.R, 0, none⟩), .pointer (some ⟨e2.H, 0, none⟩), .pointer (some ⟨e2.R, 0, none⟩)] 66) = wA := hwA.symm
      rw [e1x, HWA.out.1]
      clear e1x hwA hPSe hbA
      go_wp2_with (first | (at_make; refine wpList_make_full _ rfl _ _ 22 rfl wA.heap.size 5 i0 _ 1 Try.underlying22 hi0 hz0 hz1 _ _ _ _ 8262 rfl rfl rfl rfl (by rw [hz2]; omega) (by unfold maxLen; omega) (Nat.le_refl _) ?_))
      intro wB r1 r2
      obtain ⟨BF, hBF⟩ : ∃ BF, BF = wA.heap.size := ⟨_, rfl⟩
      obtain ⟨N, hN⟩ : ∃ N, N = 8262 := ⟨_, rfl⟩
      have HNN : Hid (N = 8262) := hN
      have hbB : Below wA.heap.size wA wB := (Below.refl _ _).grown r2 (Nat.le_refl _) (by intro q hq; simp at hq)
      have hbf : BfAt wB BF l0 := by
        refine bf_of (B := wA.heap.size) (N := 8262) ?_
        rw [HL0.out.2, hBF]
        exact r1
      have HWB : Hid (BF = PS + 1 ∧ BF < wB.heap.size ∧ Below wA.heap.size wA wB) := ⟨by rw [hBF]; exact HWA.out.2.1, hbf.lt, hbB⟩
      have hPB := hPA.ch (Ch.ofBelow (S := fun _ => False) hbB) id
      rw [← hBF, ← hN]
      have hN1 : N ≤ 10000 := by omega
      have hN2 : 4096 ≤ N := by omega
      clear hBF hN r1 r2 hbB hPA hi0 hz0 hz1 hz2
      go_upto_region 12 with fail
      obtain ⟨BK, hBKe⟩ : ∃ BK, BK = wB.heap.size := ⟨_, rfl⟩
      obtain ⟨wC, hwC⟩ : ∃ wC, wC = wB.alloc (.cells #[.slice none 0 0, .slice none 0 0, .slice none 0 0, .slice none 0 0] 65) := ⟨_, rfl⟩
      have hbC : Below wB.heap.size wB wC := by rw [hwC]; exact (Below.refl _ _).alloc (Nat.le_refl _) _
      have hBK := bk_new wB wC hwC
      rw [← hBKe] at hBK
      have HZ : Hid (Below w4.heap.size w4 wC ∧ PsAt wC PS (psV e1 e2) ∧ BkM wC BK bz0 ∧ BfAt wC BF l0 ∧ w4.heap.size = PS ∧ BF = PS + 1 ∧ BF < BK) := by
        have h1 := HWA.out.2.2
        have h2 := HWB.out.2.2
        refine ⟨(h1.trans (h2.mono h1.size)).trans (hbC.mono (Nat.le_trans h1.size h2.size)), hPB.ch (Ch.ofBelow (S := fun _ => False) hbC) id, hBK, hbf.ch (Ch.ofBelow (S := fun _ => False) hbC) id, HWA.out.1, HWB.out.1, by rw [hBKe]; exact HWB.out.2.1⟩
      rw [← hBKe, ← hwC]
      clear hBKe hwC hbC hBK hPB hbf HWA HWB
      have HL : Hid (∃ (p : Nat → Ent) (sz ia ib : Nat) (b : BV) (l : List Nat), HAg W 2 p sz ia ib PS BK b BF N P7 #[.pointer (some ⟨e2.H, 0, none⟩), .pointer (some ⟨e2.R, 0, none⟩)] l wC) := by
        have g := H4.out
        have z := HZ.out
        refine ⟨_, _, _, _, _, l0, HPl.start (e1 := e1) (e2 := e2) (g.2.2.2.2.2.2.1.trans (z.1.mono g.2.2.2.2.2.2.1.size)) (g.1.below z.1) (g.2.1.below z.1) (fun x hx => (g.2.2.2.2.1 x hx).1) (fun x hx => by have := (g.2.2.2.2.2.1 x hx).1; omega) (fun x hx q => by have h1 := (g.2.2.2.2.1 x hx).2; have h2 := (g.2.2.2.2.2.1 x q).1; omega) 2 g.2.2.1 g.2.2.2.1 z.2.1 (by omega) (fun q => by have := (g.2.2.2.2.1 _ q).2; omega) (fun q => by have := (g.2.2.2.2.2.1 _ q).2; omega) z.2.2.1 (by omega) (fun q => by have := (g.2.2.2.2.1 _ q).2; omega) (fun q => by have := (g.2.2.2.2.2.1 _ q).2; omega) (by omega), z.2.2.2.1, by rw [HL0.out.1, HNN.out], by omega, ?_, fun q => by have := bz0_bb q; omega, by omega, hQ9.below z.1, ?_, fun q => by have := bz0_bb q; omega, by omega⟩
        · intro i hi q
          by_cases c : i = 0
          · simp only [if_pos c] at q; have := (g.2.2.2.2.1 _ q).2; omega
          · simp only [if_neg c] at q; have := (g.2.2.2.2.2.1 _ q).2; omega
        · intro i hi q
          by_cases c : i = 0
          · simp only [if_pos c] at q; have := (g.2.2.2.2.1 _ q).2; omega
          · simp only [if_neg c] at q; have := (g.2.2.2.2.2.1 _ q).2; omega
      clear HZ H4 hP9 hQ9 HL0
      go_wp2
      go_loopw [11] (fun ix wr => ∃ k : Nat, (k ≤ len ∧ k ≤ 120) ∧ ix = .int .i64 (k : Int) ∧ Hid (∃ (p : Nat → Ent) (sz ia ib : Nat) (b : BV) (l : List Nat), HAg W (k + 2) p sz ia ib PS BK b BF N P7 #[.pointer (some ⟨e2.H, 0, none⟩), .pointer (some ⟨e2.R, 0, none⟩)] l wr)) (fun ix _ => len - (intOf ix).toNat)
      case atStart => exact ⟨0, by omega, rfl, HL⟩
      case round =>
        obtain ⟨k, hk, rfl, HH⟩ := hrel
        clear HL
        obtain ⟨p, sz, ia, ib, b, l, hpl⟩ := HH.out
        have H0 : Hid (HAg W (k + 2) p sz ia ib PS BK b BF N P7 #[.pointer (some ⟨e2.H, 0, none⟩), .pointer (some ⟨e2.R, 0, none⟩)] l wr) := hpl
        clear hpl HH
        by_cases hge : len ≤ k ∨ 120 ≤ k
        · by_cases h1 : len ≤ k
          · have d1 : ¬ (k : Int) < (len : Int) := by omega
            clear hge h1
            as_aux_lemma =>
              obtain ⟨ea, hea⟩ : ∃ ea, ea = p ia := ⟨_, rfl⟩
              obtain ⟨eb, heb⟩ : ∃ eb, eb = p ib := ⟨_, rfl⟩
              have HEE : Hid (ea = p ia ∧ eb = p ib) := ⟨hea, heb⟩
              have hpc := H0.out.pl.ps
              rw [← hea, ← heb] at hpc
              have y0 : wr.cell? ⟨PS, 0, none⟩ = some (.pointer (some ⟨ea.H, 0, none⟩)) := hpc.cell 0
              have y1 : wr.cell? ⟨PS, 1, none⟩ = some (.pointer (some ⟨ea.R, 0, none⟩)) := hpc.cell 1
              clear hea heb hpc
              have QA1 : Hid (Calls Try.prog 23 #[.agg #[.pointer (some ⟨ea.H, 0, none⟩), .pointer (some ⟨ea.R, 0, none⟩)], .int .i64 4, .pointer (some ⟨BK, 0, none⟩)] wr fun r w' => r = .returned (.bool true) ∧ BkE wr BK b w') := asked_any wr ea (by rw [HEE.out.1]; exact H0.out.pl.ok _ H0.out.pl.ha) 4 BK b H0.out.pl.bk H0.out.pl.mb H0.out.pl.mg (by have := H0.out.pl.le; omega) (by have := H0.out.pl.lg; omega)
              go_wp2_with fail
              refine Calls.mono QA1.out ?_
              rintro f1 w1 ⟨rfl, hm⟩
              obtain ⟨b1, h1⟩ := H0.out.ask hm
              have HH1 : Hid (HAg W (k + 3) p sz ia ib PS BK b1 BF N P7 #[.pointer (some ⟨e2.H, 0, none⟩), .pointer (some ⟨e2.R, 0, none⟩)] l w1) := h1
              have hps1 := h1.pl.ps
              rw [← HEE.out.1, ← HEE.out.2] at hps1
              have y01 : w1.cell? ⟨PS, 0, none⟩ = some (.pointer (some ⟨ea.H, 0, none⟩)) := hps1.cell 0
              have y11 : w1.cell? ⟨PS, 1, none⟩ = some (.pointer (some ⟨ea.R, 0, none⟩)) := hps1.cell 1
              have y21 : w1.cell? ⟨PS, 2, none⟩ = some (.pointer (some ⟨eb.H, 0, none⟩)) := hps1.cell 2
              have y31 : w1.cell? ⟨PS, 3, none⟩ = some (.pointer (some ⟨eb.R, 0, none⟩)) := hps1.cell 3
              clear hm h1 hps1 QA1 y0 y1 H0
              have QA2 : Hid (Calls Try.prog 23 #[.agg #[.pointer (some ⟨ea.H, 0, none⟩), .pointer (some ⟨ea.R, 0, none⟩)], .int .i64 2, .pointer (some ⟨BK, 0, none⟩)] w1 fun r w' => r = .returned (.bool true) ∧ BkE w1 BK b1 w') := asked_any w1 ea (by rw [HEE.out.1]; exact HH1.out.pl.ok _ HH1.out.pl.ha) 2 BK b1 HH1.out.pl.bk HH1.out.pl.mb HH1.out.pl.mg (by have := HH1.out.pl.le; omega) (by have := HH1.out.pl.lg; omega)
              go_wp2_with fail
              refine Calls.mono QA2.out ?_
              rintro f2 w2 ⟨rfl, hm⟩
              obtain ⟨b2, h2⟩ := HH1.out.ask hm
              have HH2 : Hid (HAg W (k + 4) p sz ia ib PS BK b2 BF N P7 #[.pointer (some ⟨e2.H, 0, none⟩), .pointer (some ⟨e2.R, 0, none⟩)] l w2) := h2
              have hps2 := h2.pl.ps
              rw [← HEE.out.1, ← HEE.out.2] at hps2
              have y02 : w2.cell? ⟨PS, 0, none⟩ = some (.pointer (some ⟨ea.H, 0, none⟩)) := hps2.cell 0
              have y12 : w2.cell? ⟨PS, 1, none⟩ = some (.pointer (some ⟨ea.R, 0, none⟩)) := hps2.cell 1
              have y22 : w2.cell? ⟨PS, 2, none⟩ = some (.pointer (some ⟨eb.H, 0, none⟩)) := hps2.cell 2
              have y32 : w2.cell? ⟨PS, 3, none⟩ = some (.pointer (some ⟨eb.R, 0, none⟩)) := hps2.cell 3
              clear hm h2 hps2 QA2 y01 y11 y21 y31 HH1
              have QA3 : Hid (Calls Try.prog 23 #[.agg #[.pointer (some ⟨eb.H, 0, none⟩), .pointer (some ⟨eb.R, 0, none⟩)], .int .i64 4, .pointer (some ⟨BK, 0, none⟩)] w2 fun r w' => r = .returned (.bool true) ∧ BkE w2 BK b2 w') := asked_any w2 eb (by rw [HEE.out.2]; exact HH2.out.pl.ok _ HH2.out.pl.hb) 4 BK b2 HH2.out.pl.bk HH2.out.pl.mb HH2.out.pl.mg (by have := HH2.out.pl.le; omega) (by have := HH2.out.pl.lg; omega)
              go_wp2_with fail
              refine Calls.mono QA3.out ?_
              rintro f3 w3 ⟨rfl, hm⟩
              obtain ⟨b3, h3⟩ := HH2.out.ask hm
              have HH3 : Hid (HAg W (k + 5) p sz ia ib PS BK b3 BF N P7 #[.pointer (some ⟨e2.H, 0, none⟩), .pointer (some ⟨e2.R, 0, none⟩)] l w3) := h3
              have hps3 := h3.pl.ps
              rw [← HEE.out.1, ← HEE.out.2] at hps3
              have y03 : w3.cell? ⟨PS, 0, none⟩ = some (.pointer (some ⟨ea.H, 0, none⟩)) := hps3.cell 0
              have y13 : w3.cell? ⟨PS, 1, none⟩ = some (.pointer (some ⟨ea.R, 0, none⟩)) := hps3.cell 1
              have y23 : w3.cell? ⟨PS, 2, none⟩ = some (.pointer (some ⟨eb.H, 0, none⟩)) := hps3.cell 2
              have y33 : w3.cell? ⟨PS, 3, none⟩ = some (.pointer (some ⟨eb.R, 0, none⟩)) := hps3.cell 3
              clear hm h3 hps3 QA3 y02 y12 y22 y32 HH2
              have QWH : Hid _ := bookWhole_any w3 BK b3 HH3.out.pl.bk HH3.out.pl.mb HH3.out.pl.mg (by have := HH3.out.pl.le; omega) (by have := HH3.out.pl.lg; omega)
              go_wp2_with fail
              refine Calls.mono QWH.out ?_
              rintro f4 w4 ⟨rfl, hb4⟩
              have HB4 : Hid (Below W.heap.size W w4) := (HH3.out.below hb4).pl.bel
              have c7 : w4.cell? ⟨P7, 0, none⟩ = some (.pointer (some ⟨e2.H, 0, none⟩)) := ((HH3.out.below hb4).pr.cell 0).trans rfl
              clear hb4 QWH HH3 y03 y13 y23 y33
              go_wp2
              go_ret
              exact ⟨rfl, HB4.out⟩
          · have d1 : (k : Int) < (len : Int) := by omega
            have d2 : ¬ (k : Int) < 120 := by omega
            clear hge h1
            as_aux_lemma =>
              obtain ⟨ea, hea⟩ : ∃ ea, ea = p ia := ⟨_, rfl⟩
              obtain ⟨eb, heb⟩ : ∃ eb, eb = p ib := ⟨_, rfl⟩
              have HEE : Hid (ea = p ia ∧ eb = p ib) := ⟨hea, heb⟩
              have hpc := H0.out.pl.ps
              rw [← hea, ← heb] at hpc
              have y0 : wr.cell? ⟨PS, 0, none⟩ = some (.pointer (some ⟨ea.H, 0, none⟩)) := hpc.cell 0
              have y1 : wr.cell? ⟨PS, 1, none⟩ = some (.pointer (some ⟨ea.R, 0, none⟩)) := hpc.cell 1
              clear hea heb hpc
              have QA1 : Hid (Calls Try.prog 23 #[.agg #[.pointer (some ⟨ea.H, 0, none⟩), .pointer (some ⟨ea.R, 0, none⟩)], .int .i64 4, .pointer (some ⟨BK, 0, none⟩)] wr fun r w' => r = .returned (.bool true) ∧ BkE wr BK b w') := asked_any wr ea (by rw [HEE.out.1]; exact H0.out.pl.ok _ H0.out.pl.ha) 4 BK b H0.out.pl.bk H0.out.pl.mb H0.out.pl.mg (by have := H0.out.pl.le; omega) (by have := H0.out.pl.lg; omega)
              go_wp2_with fail
              refine Calls.mono QA1.out ?_
              rintro f1 w1 ⟨rfl, hm⟩
              obtain ⟨b1, h1⟩ := H0.out.ask hm
              have HH1 : Hid (HAg W (k + 3) p sz ia ib PS BK b1 BF N P7 #[.pointer (some ⟨e2.H, 0, none⟩), .pointer (some ⟨e2.R, 0, none⟩)] l w1) := h1
              have hps1 := h1.pl.ps
              rw [← HEE.out.1, ← HEE.out.2] at hps1
              have y01 : w1.cell? ⟨PS, 0, none⟩ = some (.pointer (some ⟨ea.H, 0, none⟩)) := hps1.cell 0
              have y11 : w1.cell? ⟨PS, 1, none⟩ = some (.pointer (some ⟨ea.R, 0, none⟩)) := hps1.cell 1
              have y21 : w1.cell? ⟨PS, 2, none⟩ = some (.pointer (some ⟨eb.H, 0, none⟩)) := hps1.cell 2
              have y31 : w1.cell? ⟨PS, 3, none⟩ = some (.pointer (some ⟨eb.R, 0, none⟩)) := hps1.cell 3
              clear hm h1 hps1 QA1 y0 y1 H0
              have QA2 : Hid (Calls Try.prog 23 #[.agg #[.pointer (some ⟨ea.H, 0, none⟩), .pointer (some ⟨ea.R, 0, none⟩)], .int .i64 2, .pointer (some ⟨BK, 0, none⟩)] w1 fun r w' => r = .returned (.bool true) ∧ BkE w1 BK b1 w') := asked_any w1 ea (by rw [HEE.out.1]; exact HH1.out.pl.ok _ HH1.out.pl.ha) 2 BK b1 HH1.out.pl.bk HH1.out.pl.mb HH1.out.pl.mg (by have := HH1.out.pl.le; omega) (by have := HH1.out.pl.lg; omega)
              go_wp2_with fail
              refine Calls.mono QA2.out ?_
              rintro f2 w2 ⟨rfl, hm⟩
              obtain ⟨b2, h2⟩ := HH1.out.ask hm
              have HH2 : Hid (HAg W (k + 4) p sz ia ib PS BK b2 BF N P7 #[.pointer (some ⟨e2.H, 0, none⟩), .pointer (some ⟨e2.R, 0, none⟩)] l w2) := h2
              have hps2 := h2.pl.ps
              rw [← HEE.out.1, ← HEE.out.2] at hps2
              have y02 : w2.cell? ⟨PS, 0, none⟩ = some (.pointer (some ⟨ea.H, 0, none⟩)) := hps2.cell 0
              have y12 : w2.cell? ⟨PS, 1, none⟩ = some (.pointer (some ⟨ea.R, 0, none⟩)) := hps2.cell 1
              have y22 : w2.cell? ⟨PS, 2, none⟩ = some (.pointer (some ⟨eb.H, 0, none⟩)) := hps2.cell 2
              have y32 : w2.cell? ⟨PS, 3, none⟩ = some (.pointer (some ⟨eb.R, 0, none⟩)) := hps2.cell 3
              clear hm h2 hps2 QA2 y01 y11 y21 y31 HH1
              have QA3 : Hid (Calls Try.prog 23 #[.agg #[.pointer (some ⟨eb.H, 0, none⟩), .pointer (some ⟨eb.R, 0, none⟩)], .int .i64 4, .pointer (some ⟨BK, 0, none⟩)] w2 fun r w' => r = .returned (.bool true) ∧ BkE w2 BK b2 w') := asked_any w2 eb (by rw [HEE.out.2]; exact HH2.out.pl.ok _ HH2.out.pl.hb) 4 BK b2 HH2.out.pl.bk HH2.out.pl.mb HH2.out.pl.mg (by have := HH2.out.pl.le; omega) (by have := HH2.out.pl.lg; omega)
              go_wp2_with fail
              refine Calls.mono QA3.out ?_
              rintro f3 w3 ⟨rfl, hm⟩
              obtain ⟨b3, h3⟩ := HH2.out.ask hm
              have HH3 : Hid (HAg W (k + 5) p sz ia ib PS BK b3 BF N P7 #[.pointer (some ⟨e2.H, 0, none⟩), .pointer (some ⟨e2.R, 0, none⟩)] l w3) := h3
              have hps3 := h3.pl.ps
              rw [← HEE.out.1, ← HEE.out.2] at hps3
              have y03 : w3.cell? ⟨PS, 0, none⟩ = some (.pointer (some ⟨ea.H, 0, none⟩)) := hps3.cell 0
              have y13 : w3.cell? ⟨PS, 1, none⟩ = some (.pointer (some ⟨ea.R, 0, none⟩)) := hps3.cell 1
              have y23 : w3.cell? ⟨PS, 2, none⟩ = some (.pointer (some ⟨eb.H, 0, none⟩)) := hps3.cell 2
              have y33 : w3.cell? ⟨PS, 3, none⟩ = some (.pointer (some ⟨eb.R, 0, none⟩)) := hps3.cell 3
              clear hm h3 hps3 QA3 y02 y12 y22 y32 HH2
              have QWH : Hid _ := bookWhole_any w3 BK b3 HH3.out.pl.bk HH3.out.pl.mb HH3.out.pl.mg (by have := HH3.out.pl.le; omega) (by have := HH3.out.pl.lg; omega)
              go_wp2_with fail
              refine Calls.mono QWH.out ?_
              rintro f4 w4 ⟨rfl, hb4⟩
              have HB4 : Hid (Below W.heap.size W w4) := (HH3.out.below hb4).pl.bel
              have c7 : w4.cell? ⟨P7, 0, none⟩ = some (.pointer (some ⟨e2.H, 0, none⟩)) := ((HH3.out.below hb4).pr.cell 0).trans rfl
              clear hb4 QWH HH3 y03 y13 y23 y33
              go_wp2
              go_ret
              exact ⟨rfl, HB4.out⟩
        · have hkl : k < len := by omega
          have hk2 : k < 120 := by omega
          have d1 : (k : Int) < (len : Int) := by omega
          have d2 : (k : Int) < 120 := by omega
          have hkx : k < ops.length := by rw [HLN.out]; exact hkl
          obtain ⟨pb, po, rfl, hpb, hok, hc0, hc1, hc2, hc3, hc4⟩ := sts_at HPS.out k hkx
          obtain ⟨q, hq⟩ : ∃ q, q = ops[k]'hkx := ⟨_, rfl⟩
          rw [← hq] at hok hc0 hc1 hc2 hc3 hc4
          obtain ⟨kd, ob, off, qa, qc, qs, more⟩ := q
          simp only at hc0 hc1 hc2 hc3 hc4
          obtain ⟨qn, hqn⟩ : ∃ qn, qn = qs.length := ⟨_, rfl⟩
          rw [← hqn] at hc3
          have hbW := H0.out.pl.bel
          have i0 : wr.cell? ⟨pb, po + k * 5, none⟩ = some (.int .i64 kd) := (World.cell?_of_block (hbW.block pb hpb)).trans hc0
          have i1 : wr.cell? ⟨pb, po + k * 5 + 1, none⟩ = some (.int .i64 ob) := (World.cell?_of_block (hbW.block pb hpb)).trans hc1
          have i2 : wr.cell? ⟨pb, po + k * 5 + 2, none⟩ = some (.int .i64 off) := (World.cell?_of_block (hbW.block pb hpb)).trans hc2
          have i3 : wr.cell? ⟨pb, po + k * 5 + 3, none⟩ = some (.slice qa qn qc) := (World.cell?_of_block (hbW.block pb hpb)).trans hc3
          have i4 : wr.cell? ⟨pb, po + k * 5 + 4, none⟩ = some (.bool more) := (World.cell?_of_block (hbW.block pb hpb)).trans hc4
          have HQN : Hid (qs.length = qn) := hqn.symm
          have HQC : Hid (qn ≤ qc) := by rw [hqn]; exact hok.le
          have HQS : Hid (Seg .u8 W qa (toI qs)) := hok.seg
          have HQ8 : Hid (∀ x ∈ qs, x < 256) := hok.b8
          clear hge hok hc0 hc1 hc2 hc3 hc4 hq hqn hkx hbW hkl
          go_upto_region 16 with fail
          obtain ⟨P, hP⟩ : ∃ P, P = wr.heap.size := ⟨_, rfl⟩
          obtain ⟨w1, hw1⟩ : ∃ w1, w1 = wr.alloc (.cells #[.int .i64 kd, .int .i64 ob, .int .i64 off, .slice qa qn qc, .bool more] 68) := ⟨_, rfl⟩
          have hb1 : Below wr.heap.size wr w1 := by rw [hw1]; exact (Below.refl _ _).alloc (Nat.le_refl _) _
          have hBx : w1.heap[P]? = some (.cells #[.int .i64 kd, .int .i64 ob, .int .i64 off, .slice qa qn qc, .bool more] 68 (0, 0)) := by rw [hw1, hP]; exact heap_alloc_new _ _
          have hcx : ∀ j, w1.cell? ⟨P, j, none⟩ = (#[.int .i64 kd, .int .i64 ob, .int .i64 off, .slice qa qn qc, .bool more] : Array Value)[j]? := by intro j; simp [World.cell?, hBx]
          have x0 := hcx 0
          have x1 := hcx 1
          have x2 := hcx 2
          have x3 := hcx 3
          have x4 := hcx 4
          have HP1 : Hid (w1.heap.size = P + 1) := by show _ = _; rw [hw1, hP]; simp
          have H1 : Hid (HAg W (k + 2) p sz ia ib PS BK b BF N P7 #[.pointer (some ⟨e2.H, 0, none⟩), .pointer (some ⟨e2.R, 0, none⟩)] l w1) := H0.out.below hb1
          have HN1 : Hid (¬ BB BK b P ∧ (∀ i, i < sz → ¬ EB (p i) P) ∧ BF ≠ P) := ⟨fun q => by have := H0.out.pl.bk.lt P q; omega, fun i hi q => by have := (H0.out.pl.ok i hi).lt P q; omega, by have := H0.out.bf.lt; omega⟩
          rw [← hP, ← hw1]
          clear hP hw1 hb1 hBx hcx H0 i0 i1 i2 i3 i4
          simp only [List.getElem?_toArray, List.getElem?_cons_zero, List.getElem?_cons_succ] at x0 x1 x2 x3 x4
          have ha := and1 ob
          obtain ⟨o, ho, ho2⟩ : ∃ o : Nat, (o : Int) = ob % 2 ∧ o < 2 := ⟨(ob % 2).toNat, by omega, by omega⟩
          have ha2 : bits .and .i64 ob 1 = (o : Int) := by rw [ha, ho]
          have ho3 : (o : Int) < 2 := by omega
          clear ha ho
          obtain ⟨jo, hjo⟩ : ∃ jo, jo = if o = 0 then ia else ib := ⟨_, rfl⟩
          have HEI : Hid (jo < sz) := by
            show _ < _
            rw [hjo]
            split
            · exact H1.out.pl.ha
            · exact H1.out.pl.hb
          obtain ⟨eo, heo⟩ : ∃ eo, eo = p jo := ⟨_, rfl⟩
          have HEO : Hid (eo = p jo) := heo
          have hpc : w1.cell? ⟨PS, o * 2, none⟩ = some (.pointer (some ⟨eo.H, 0, none⟩)) ∧ w1.cell? ⟨PS, o * 2 + 1, none⟩ = some (.pointer (some ⟨eo.R, 0, none⟩)) := by
            have hp := H1.out.pl.ps
            rw [heo, hjo]
            match o, ho2 with
            | 0, _ => exact ⟨hp.cell 0, hp.cell 1⟩
            | 1, _ => exact ⟨hp.cell 2, hp.cell 3⟩
          obtain ⟨hpc1, hpc2⟩ := hpc
          clear heo hjo
          go_upto_region 17 with fail
          obtain ⟨Q1, hQ1⟩ : ∃ Q1, Q1 = w1.heap.size := ⟨_, rfl⟩
          obtain ⟨w2, hw2⟩ : ∃ w2, w2 = w1.alloc (.cells #[.pointer (some ⟨eo.H, 0, none⟩), .pointer (some ⟨eo.R, 0, none⟩)] 56) := ⟨_, rfl⟩
          have hb2 : Below w1.heap.size w1 w2 := by rw [hw2]; exact (Below.refl _ _).alloc (Nat.le_refl _) _
          have hQ : PrAt w2 Q1 #[.pointer (some ⟨eo.H, 0, none⟩), .pointer (some ⟨eo.R, 0, none⟩)] := by rw [hw2, hQ1]; exact PrAt_new _ _
          have H2 : Hid (HAg W (k + 2) p sz ia ib PS BK b BF N P7 #[.pointer (some ⟨e2.H, 0, none⟩), .pointer (some ⟨e2.R, 0, none⟩)] l w2) := H1.out.below hb2
          have HN2 : Hid (¬ BB BK b Q1 ∧ (∀ i, i < sz → ¬ EB (p i) Q1) ∧ BF ≠ Q1) := ⟨fun q => by have := H1.out.pl.bk.lt Q1 q; omega, fun i hi q => by have := (H1.out.pl.ok i hi).lt Q1 q; omega, by have := H1.out.bf.lt; omega⟩
          have hPl : P < w1.heap.size := by have := HP1.out; omega
          have s0 := (World.cell?_of_block (hb2.block P hPl)).trans x0
          have s2 := (World.cell?_of_block (hb2.block P hPl)).trans x2
          have s3 := (World.cell?_of_block (hb2.block P hPl)).trans x3
          have s4 := (World.cell?_of_block (hb2.block P hPl)).trans x4
          rw [← hQ1, ← hw2]
          clear hQ1 hw2 hb2 x0 x1 x2 x3 x4 hpc1 hpc2 H1 HP1 hPl ha2 ho3 ho2
          by_cases k1 : kd = 1
          · subst k1
            have n1 : ((1 : Int) != 1) = false := rfl
            as_aux_lemma =>
              obtain ⟨d, hd⟩ : ∃ d, d = qs.take 4096 := ⟨_, rfl⟩
              obtain ⟨n, hn⟩ : ∃ n, n = d.length := ⟨_, rfl⟩
              have hn4 : n ≤ 4096 := by rw [hn, hd, List.length_take]; omega
              have HD8 : Hid (∀ x, x ∈ d → x < 256) := by rw [hd]; exact fun x hx => HQ8.out x (List.mem_of_mem_take hx)
              have QC : Hid (Calls Try.prog 10 #[.slice qa qn qc] w2 fun r w' => ∃ ua uc, r = .returned (.slice ua n uc) ∧ w'.ownsRow w2.heap.size 5 1 (.slice ua n uc) n ((toI d).map (Value.int .u8)) ∧ Below w2.heap.size w2 w') := by
                have := cut_any w2 qa qn qc qs HQN.out HQC.out (HQS.out.old H2.out.pl.bel)
                rw [← hd, ← hn] at this
                exact this
              have HN : Hid (d.length = n) := hn.symm
              clear hd hn HQS HQC HQN HQ8
              go_wp2_with fail
              refine Calls.mono QC.out ?_
              rintro e7 w3 ⟨ua, uc, rfl, ho3, hb3⟩
              have H3 : Hid (HAg W (k + 2) p sz ia ib PS BK b BF N P7 #[.pointer (some ⟨e2.H, 0, none⟩), .pointer (some ⟨e2.R, 0, none⟩)] l w3 ∧ w3.ownsRow w2.heap.size 5 1 (.slice ua n uc) n ((toI d).map (Value.int .u8))) := ⟨H2.out.below hb3, ho3⟩
              have t0 : w3.cell? ⟨Q1, 0, none⟩ = some (.pointer (some ⟨eo.H, 0, none⟩)) := ((hQ.below hb3).cell 0).trans rfl
              have t1 : w3.cell? ⟨Q1, 1, none⟩ = some (.pointer (some ⟨eo.R, 0, none⟩)) := ((hQ.below hb3).cell 1).trans rfl
              have hPl : P < w2.heap.size := World.block_lt_of_cell? _ _ s2
              have t2 := (World.cell?_of_block (hb3.block P hPl)).trans s2
              have t4 := (World.cell?_of_block (hb3.block P hPl)).trans s4
              have HE3 : Hid (EOk w3 eo) := by rw [HEO.out]; exact H3.out.1.pl.ok _ HEI.out
              have HBF : Hid (¬ EB eo BF ∧ BF < w3.heap.size) := ⟨by rw [HEO.out]; exact H3.out.1.fe _ HEI.out, H3.out.1.bf.lt⟩
              have HTK : Hid (eo.s.tk.length ≤ k + 2) := by rw [HEO.out]; exact H3.out.1.pl.tk _ HEI.out
              have HDR : Hid (∀ q, (Value.slice ua n uc).ownBlock = some q → ¬ EB eo q ∧ q ≠ BF) := by
                intro q hq
                have h1 := (ho3.lt q hq).1
                refine ⟨fun z => ?_, ?_⟩
                · rw [HEO.out] at z
                  have := (H2.out.pl.ok _ HEI.out).lt q z
                  omega
                · have := H2.out.bf.lt
                  omega
              have HSG : Hid (n ≤ uc ∧ ∀ A : World, Ch (fun x => EB eo x ∨ x = BF) w3 A → Seg .u8 A ua (toI d)) := by
                obtain ⟨a', c', q1, hsg, _, hc, _⟩ := owns_seg ho3 (k := .u8)
                simp only [Value.slice.injEq, true_and] at q1
                obtain ⟨rfl, rfl⟩ := q1
                refine ⟨hc, fun A hA => hA.seg hsg (fun x _ hx q => ?_)⟩
                have h1 := HDR.out x.block (by rw [hx]; rfl)
                exact q.elim h1.1 h1.2
              have HSX : Hid (∀ A : World, Ch (fun x => EB eo x ∨ x = BF) w3 A → (A.cell? ⟨Q1, 0, none⟩ = some (.pointer (some ⟨eo.H, 0, none⟩)) ∧ A.cell? ⟨P, 2, none⟩ = some (.int .i64 off) ∧ A.cell? ⟨P, 4, none⟩ = some (.bool more))) := by
                have n1 : ¬ (EB eo Q1 ∨ Q1 = BF) := fun q => q.elim (fun z => HN2.out.2.1 _ HEI.out (by rw [← HEO.out]; exact z)) (fun z => HN2.out.2.2 z.symm)
                have n2 : ¬ (EB eo P ∨ P = BF) := fun q => q.elim (fun z => HN1.out.2.1 _ HEI.out (by rw [← HEO.out]; exact z)) (fun z => HN1.out.2.2 z.symm)
                exact fun A hA => ⟨hA.cell t0 n1, hA.cell t2 n2, hA.cell t4 n2⟩
              have HSR : Hid (∀ A : World, Ch (fun x => EB eo x ∨ x = BF) w3 A → A.cell? ⟨Q1, 1, none⟩ = some (.pointer (some ⟨eo.R, 0, none⟩))) := by
                have n1 : ¬ (EB eo Q1 ∨ Q1 = BF) := fun q => q.elim (fun z => HN2.out.2.1 _ HEI.out (by rw [← HEO.out]; exact z)) (fun z => HN2.out.2.2 z.symm)
                exact fun A hA => hA.cell t1 n1
              obtain ⟨s', hs'⟩ : ∃ s', s' = pS eo.s off d more := ⟨_, rfl⟩
              obtain ⟨NW, hNW⟩ : ∃ NW, NW = pN eo.s off d more := ⟨_, rfl⟩
              obtain ⟨OL, hOL⟩ : ∃ OL, OL = pO eo.s off d more := ⟨_, rfl⟩
              obtain ⟨SM, hSM⟩ : ∃ SM, SM = pM eo.s off d more := ⟨_, rfl⟩
              obtain ⟨E, hE⟩ : ∃ E, E = rf eo.s off n more := ⟨_, rfl⟩
              have HST : Hid (Inv s' ∧ s'.tk.length ≤ k + 3) := ⟨by rw [hs']; exact pS_inv HE3.out.inv off d more HD8.out, by rw [hs']; exact pS_tk1 _ _ _ _ HTK.out⟩
              have QL : Hid (∀ A : World, Ch (fun _ => False) w3 A → Calls Try.prog 25 #[.slice (some ⟨BF, 0, none⟩) N N, .slice ua n uc] A fun r w' => r = .returned (.slice (some ⟨BF, 0, none⟩) n N) ∧ BfAt w' BF (layL d l N N) ∧ Ch (fun q => q = BF) A w') := by
                intro A hA
                exact lay_any A BF N l (H3.out.1.bf.ch hA id) H3.out.1.ll hN1 d ua n uc HN.out (by omega) (HSG.out.2 A (hA.mono (fun _ _ q => q.elim)))
              have QP : Hid (∀ A : World, Ch (fun q => q = BF) w3 A → BfAt A BF (layL d l N N) → Calls Try.prog 13 #[.pointer (some ⟨eo.H, 0, none⟩), .int .i64 off, .slice (some ⟨BF, 0, none⟩) n N, .bool more] A fun r w' => r = .returned (.tuple #[.agg #[.int .i64 (NW : Int), .int .i64 OL, .bool SM], .int .i64 E]) ∧ Moved A eo.H eo.v w' s') := by
                intro A hA hbA
                rw [hs', hNW, hOL, hSM, hE, ← HN.out]
                refine put_u A eo.H eo.s eo.v (HE3.out.h.ch hA (fun x hx q => HBF.out.1 (by have q' : x = BF := q; rw [← q']; exact .inl hx))) HE3.out.inv off d _ N more HD8.out (by have := HTK.out; omega) (by rw [HN.out]; omega) (hbA.seg (by rw [HN.out]; omega)) (fun x _ hx q => ?_)
                simp only [Option.some.injEq] at hx
                rw [← hx] at q
                exact HBF.out.1 (.inl q)
              have QR : Hid (∀ A : World, RAt A eo.R eo.s eo.u → Ch (fun x => EB eo x ∨ x = BF) w3 A → Calls Try.prog 26 #[.pointer (some ⟨eo.R, 0, none⟩), .int .i64 off, .slice ua n uc, .bool more] A fun r w' => r = .returned (.tuple #[.agg #[.int .i64 (NW : Int), .int .i64 OL, .bool SM], .int .i64 E]) ∧ ∃ u', RAt w' eo.R s' u' ∧ (∀ x, RB eo.R u' x → RB eo.R eo.u x ∨ A.heap.size ≤ x) ∧ Ch (RB eo.R eo.u) A w') := by
                intro A hA hcA
                rw [hs', hNW, hOL, hSM, hE, ← HN.out]
                refine putR_u A eo.R eo.s eo.u hA HE3.out.inv off d ua uc more HD8.out (by have := HTK.out; omega) (by rw [HN.out]; exact HSG.out.1) (HSG.out.2 A hcA) (fun x _ hx q => ?_)
                exact (HDR.out x.block (by rw [hx]; rfl)).1 (.inr q)
              clear hs' hNW hOL hSM hE QC ho3 hb3 H2 hQ hPl s0 s2 s3 s4 HTK
              go_upto_region 21 with fail
              go_cut [15, 16] (fun x y wx => ∃ F : Nat, x = .pointer (some ⟨F, 0, none⟩) ∧ y = .int .i64 E ∧ Hid (RES4 w3 eo s' BF (layL d l N N) #[.int .i64 (NW : Int), .int .i64 OL, .bool SM] wx F))
              case first =>
                refine MixH.start (fun A => A.cell? ⟨Q1, 0, none⟩ = some (.pointer (some ⟨eo.H, 0, none⟩)) ∧ A.cell? ⟨P, 2, none⟩ = some (.int .i64 off) ∧ A.cell? ⟨P, 4, none⟩ = some (.bool more)) (by kernel_rfl) ?_
                obtain ⟨wA, hwA⟩ : ∃ wA, wA = w3.drew := ⟨_, rfl⟩
                have HA : Hid (Ch (fun q => q = BF) w3 wA) := by rw [hwA]; exact (Ch.refl _ _).drew
                have hS : wA.cell? ⟨Q1, 0, none⟩ = some (.pointer (some ⟨eo.H, 0, none⟩)) ∧ wA.cell? ⟨P, 2, none⟩ = some (.int .i64 off) ∧ wA.cell? ⟨P, 4, none⟩ = some (.bool more) := HSX.out wA (HA.out.mono (fun _ _ q => .inr q))
                have HA0 : Hid (Ch (fun _ => False) w3 wA) := by rw [hwA]; exact (Ch.refl _ _).drew
                rw [← hwA]
                clear hwA
                refine MixH.takes [true] 15 (by kernel_rfl) (by kernel_rfl) (by decide) (by kernel_rfl) hS (fun K hK => ?_)
                simp only [Mix.pick]
                repeat (go_big_quiet_step (fail))
                refine wpQuiet_nil (hK _ ?_)
                clear hK K
                refine MixH.take 14 1 _ (.pointer (some ⟨eo.H, 0, none⟩)) rfl (by kernel_rfl) (by kernel_rfl) (by kernel_rfl) (by kernel_rfl) (yields_pH (.tmp 91) rfl ⟨Q1, 0, none⟩ _ rfl rfl (fun A hA => hA.1)) hS (fun a' ha => ?_)
                simp only [Act.put, List.setIfInBounds_toArray, List.set_cons_succ, List.set_cons_zero] at ha
                subst ha
                refine MixH.takes [false, false, true] 13 (by kernel_rfl) (by kernel_rfl) (by decide) (by kernel_rfl) hS (fun K hK => ?_)
                simp only [Mix.pick]
                repeat (go_big_quiet_step (fail))
                refine wpQuiet_nil (hK _ ?_)
                clear hK K
                refine MixH.take 12 3 _ (.int .i64 off) rfl (by kernel_rfl) (by kernel_rfl) (by kernel_rfl) (by kernel_rfl) (yields_int (.tmp 93) rfl ⟨P, 2, none⟩ _ rfl rfl (fun A hA => hA.2.1)) hS (fun a' ha => ?_)
                simp only [Act.put, List.setIfInBounds_toArray, List.set_cons_succ, List.set_cons_zero] at ha
                subst ha
                refine MixH.takes [false, false, false, false, true, true, false, true] 9 (by kernel_rfl) (by kernel_rfl) (by decide) (by kernel_rfl) hS (fun K hK => ?_)
                simp only [Mix.pick]
                repeat (go_big_quiet_step (fail))
                refine wpQuiet_nil (hK _ ?_)
                clear hK K
                refine MixH.take 8 8 _ (.bool more) rfl (by kernel_rfl) (by kernel_rfl) (by kernel_rfl) (by kernel_rfl) (yields_bool (.tmp 98) rfl ⟨P, 4, none⟩ _ rfl rfl (fun A hA => hA.2.2)) hS (fun a' ha => ?_)
                simp only [Act.put, List.setIfInBounds_toArray, List.set_cons_succ, List.set_cons_zero] at ha
                subst ha
                refine MixH.many [6, 13] 7 (by kernel_rfl) (by decide) (by kernel_rfl) ?_
                intro i hi
                simp only [List.mem_cons, List.not_mem_nil, or_false] at hi
                rcases hi with rfl | rfl
                · refine ⟨_, rfl, fun K hK => ?_⟩
                  go_wp2_with fail
                  refine Calls.mono (QL.out wA HA0.out) ?_
                  rintro ex wq1 ⟨rfl, hb', hc'⟩
                  have HQ2 : Hid (Ch (fun q => q = BF) w3 wq1) := HA.out.trans hc' (fun _ _ q => q)
                  have HBL : Hid (BfAt wq1 BF (layL d l N N)) := hb'
                  have hS' : wq1.cell? ⟨Q1, 0, none⟩ = some (.pointer (some ⟨eo.H, 0, none⟩)) ∧ wq1.cell? ⟨P, 2, none⟩ = some (.int .i64 off) ∧ wq1.cell? ⟨P, 4, none⟩ = some (.bool more) := HSX.out wq1 (HQ2.out.mono (fun _ _ q => .inr q))
                  clear hb' hc' hS HA
                  have hS := hS'
                  clear hS'
                  (try go_wp2)
                  refine ⟨rfl, hK _ _ hS ?_⟩
                  clear hK K
                  refine MixH.many [9, 13] 6 (by kernel_rfl) (by decide) (by kernel_rfl) ?_
                  intro i hi
                  simp only [List.mem_cons, List.not_mem_nil, or_false] at hi
                  rcases hi with rfl | rfl
                  · refine ⟨_, rfl, fun K hK => ?_⟩
                    go_wp2_with fail
                    refine Calls.mono (QP.out wq1 HQ2.out HBL.out) ?_
                    rintro ex wq3 ⟨rfl, hm⟩
                    obtain ⟨v', hpp, hnf⟩ := stg_put HE3.out HBF.out.1 HQ2.out HBL.out hm
                    have HP9 : Hid (PP w3 eo s' BF (layL d l N N) v' wq3 ∧ ∀ F, w3.heap.size ≤ F → F < wq1.heap.size → ∀ x, HB eo.H v' x → x ≠ F) := ⟨hpp, hnf⟩
                    have hS' : wq3.cell? ⟨Q1, 0, none⟩ = some (.pointer (some ⟨eo.H, 0, none⟩)) ∧ wq3.cell? ⟨P, 2, none⟩ = some (.int .i64 off) ∧ wq3.cell? ⟨P, 4, none⟩ = some (.bool more) := HSX.out wq3 hpp.ch
                    clear hm hpp hnf hS HQ2 HBL
                    have hS := hS'
                    clear hS'
                    go_wp2
                    refine ⟨rfl, hK _ _ hS ?_⟩
                    clear hK K
                    refine MixH.takes [false, false, false, false, false, false, false, false, false, false, true, true, true] 3 (by kernel_rfl) (by kernel_rfl) (by decide) (by kernel_rfl) hS (fun K hK => ?_)
                    simp only [Mix.pick]
                    repeat (go_big_quiet_step (fail))
                    refine wpQuiet_nil (hK _ ?_)
                    clear hK K
                    refine MixH.many [13] 2 (by kernel_rfl) (by decide) (by kernel_rfl) ?_
                    intro i hi
                    simp only [List.mem_cons, List.not_mem_nil, or_false] at hi
                    subst hi
                    refine ⟨_, rfl, fun K hK => ?_⟩
                    go_wp2
                    obtain ⟨wq5, hwq5⟩ : ∃ x, x = wq3.alloc (.cells #[.int .i64 0, .int .i64 0, .bool false] 33) := ⟨_, rfl⟩
                    obtain ⟨F7, hF7⟩ : ∃ x, x = wq3.heap.size := ⟨_, rfl⟩
                    have hbq : Below wq3.heap.size wq3 wq5 := by rw [hwq5]; exact (Below.refl _ _).alloc (Nat.le_refl _) _
                    have HPn : Hid (PP w3 eo s' BF (layL d l N N) v' wq5) := HP9.out.1.below hbq
                    have HF4 : Hid (FtAt wq5 F7 ftz ∧ w3.heap.size ≤ F7 ∧ ∀ x, HB eo.H v' x → x ≠ F7) := ⟨by rw [hwq5, hF7]; exact FtAt_new _ _, by rw [hF7]; exact HP9.out.1.ch.size, fun x hx q => by have := HP9.out.1.h.lt x hx; omega⟩
                    have hS' : wq5.cell? ⟨Q1, 0, none⟩ = some (.pointer (some ⟨eo.H, 0, none⟩)) ∧ wq5.cell? ⟨P, 2, none⟩ = some (.int .i64 off) ∧ wq5.cell? ⟨P, 4, none⟩ = some (.bool more) := HSX.out wq5 HPn.out.ch
                    rw [← hwq5, ← hF7]
                    have HP9' : Hid (PP w3 eo s' BF (layL d l N N) v' wq5 ∧ True) := ⟨HPn.out, trivial⟩
                    clear hwq5 hF7 hbq hS HP9 HPn
                    have HP9 := HP9'
                    have hS := hS'
                    clear hS' HP9'
                    refine ⟨rfl, hK _ _ hS ?_⟩
                    clear hK K
                    have hft := HF4.out.1
                    refine MixH.one [false, false, false, false, false, false, false, false, false, false, false, false, false, false, true] 1 14 _ rfl rfl (by kernel_rfl) (by kernel_rfl) (fun K hK => ?_)
                    simp only [Mix.pick]
                    go_wp2_with (first | (refine wpList_store_Ft (.tmp 15) (.tmp 101) rfl rfl F7 ftz #[.int .i64 (NW : Int), .int .i64 OL, .bool SM] rfl rfl (ft_one _ _ _) rfl rfl hft rfl ?_))
                    intro w6 hf6 k6
                    have HR : Hid (RES4 w3 eo s' BF (layL d l N N) #[.int .i64 (NW : Int), .int .i64 OL, .bool SM] w6 F7) := HP9.out.1.fin HE3.out HBF.out.2 k6 HF4.out.2.1 HF4.out.2.2 hf6
                    have hS6 : w6.cell? ⟨Q1, 0, none⟩ = some (.pointer (some ⟨eo.H, 0, none⟩)) ∧ w6.cell? ⟨P, 2, none⟩ = some (.int .i64 off) ∧ w6.cell? ⟨P, 4, none⟩ = some (.bool more) := HSX.out w6 (by obtain ⟨_, c, _⟩ := HR.out; exact c.ch)
                    clear hf6 k6 hft hS HF4 HP9
                    go_wp2
                    refine ⟨rfl, hK _ _ hS6 ?_⟩
                    clear hK K
                    refine MixH.takes [false, false, false, false, false, false, false, false, false, false, false, false, false, false, false, true] 0 (by kernel_rfl) (by kernel_rfl) (by decide) (by kernel_rfl) hS6 (fun K hK => ?_)
                    simp only [Mix.pick]
                    repeat (go_big_quiet_step (fail))
                    refine wpQuiet_nil (hK _ ?_)
                    clear hK K
                    refine MixH.done (by kernel_rfl) ?_
                    clear hS6
                    go_wp2
                    go_meet
                    exact ⟨F7, rfl, rfl, HR⟩
                  · refine ⟨_, rfl, fun K hK => ?_⟩
                    go_wp2
                    obtain ⟨wq8, hwq8⟩ : ∃ x, x = wq1.alloc (.cells #[.int .i64 0, .int .i64 0, .bool false] 33) := ⟨_, rfl⟩
                    obtain ⟨F10, hF10⟩ : ∃ x, x = wq1.heap.size := ⟨_, rfl⟩
                    have hbq : Below wq1.heap.size wq1 wq8 := by rw [hwq8]; exact (Below.refl _ _).alloc (Nat.le_refl _) _
                    have HQ9 : Hid (Ch (fun q => q = BF) w3 wq8) := HQ2.out.trans (Ch.ofBelow (S := fun _ => False) hbq) (fun _ _ q => q.elim)
                    have HBL2 : Hid (BfAt wq8 BF (layL d l N N)) := HBL.out.ch (Ch.ofBelow (S := fun _ => False) hbq) id
                    have HF2 : Hid (FtAt wq8 F10 ftz) := by rw [hwq8, hF10]; exact FtAt_new _ _
                    have HF3 : Hid (w3.heap.size ≤ F10 ∧ F10 < wq8.heap.size) := ⟨by rw [hF10]; exact HQ2.out.size, HF2.out.lt⟩
                    have hS' : wq8.cell? ⟨Q1, 0, none⟩ = some (.pointer (some ⟨eo.H, 0, none⟩)) ∧ wq8.cell? ⟨P, 2, none⟩ = some (.int .i64 off) ∧ wq8.cell? ⟨P, 4, none⟩ = some (.bool more) := HSX.out wq8 (HQ9.out.mono (fun _ _ q => .inr q))
                    rw [← hwq8, ← hF10]
                    clear hwq8 hF10 hbq hS HQ2 HBL
                    have hS := hS'
                    clear hS'
                    have HBL := HBL2
                    clear HBL2
                    refine ⟨rfl, hK _ _ hS ?_⟩
                    clear hK K
                    refine MixH.many [9] 5 (by kernel_rfl) (by decide) (by kernel_rfl) ?_
                    intro i hi
                    simp only [List.mem_cons, List.not_mem_nil, or_false] at hi
                    subst hi
                    refine ⟨_, rfl, fun K hK => ?_⟩
                    go_wp2_with fail
                    refine Calls.mono (QP.out wq8 HQ9.out HBL.out) ?_
                    rintro ex wq11 ⟨rfl, hm⟩
                    obtain ⟨v', hpp, hnf⟩ := stg_put HE3.out HBF.out.1 HQ9.out HBL.out hm
                    have HP9 : Hid (PP w3 eo s' BF (layL d l N N) v' wq11 ∧ ∀ F, w3.heap.size ≤ F → F < wq8.heap.size → ∀ x, HB eo.H v' x → x ≠ F) := ⟨hpp, hnf⟩
                    have HF4 : Hid (FtAt wq11 F10 ftz ∧ w3.heap.size ≤ F10 ∧ ∀ x, HB eo.H v' x → x ≠ F10) := by
                      obtain ⟨_, _, _, m3⟩ := hm
                      refine ⟨HF2.out.ch m3 (fun q => ?_), HF3.out.1, hnf _ HF3.out.1 HF3.out.2⟩
                      have h1 := HE3.out.h.lt _ q
                      have h2 := HF3.out.1
                      omega
                    have hS' : wq11.cell? ⟨Q1, 0, none⟩ = some (.pointer (some ⟨eo.H, 0, none⟩)) ∧ wq11.cell? ⟨P, 2, none⟩ = some (.int .i64 off) ∧ wq11.cell? ⟨P, 4, none⟩ = some (.bool more) := HSX.out wq11 hpp.ch
                    clear hm hpp hnf hS HQ9 HBL HF2 HF3
                    have hS := hS'
                    clear hS'
                    go_wp2
                    refine ⟨rfl, hK _ _ hS ?_⟩
                    clear hK K
                    refine MixH.takes [false, false, false, false, false, false, false, false, false, false, true, true, true] 2 (by kernel_rfl) (by kernel_rfl) (by decide) (by kernel_rfl) hS (fun K hK => ?_)
                    simp only [Mix.pick]
                    repeat (go_big_quiet_step (fail))
                    refine wpQuiet_nil (hK _ ?_)
                    clear hK K
                    have hft := HF4.out.1
                    refine MixH.one [false, false, false, false, false, false, false, false, false, false, false, false, false, false, true] 1 14 _ rfl rfl (by kernel_rfl) (by kernel_rfl) (fun K hK => ?_)
                    simp only [Mix.pick]
                    go_wp2_with (first | (refine wpList_store_Ft (.tmp 15) (.tmp 101) rfl rfl F10 ftz #[.int .i64 (NW : Int), .int .i64 OL, .bool SM] rfl rfl (ft_one _ _ _) rfl rfl hft rfl ?_))
                    intro w6 hf6 k6
                    have HR : Hid (RES4 w3 eo s' BF (layL d l N N) #[.int .i64 (NW : Int), .int .i64 OL, .bool SM] w6 F10) := HP9.out.1.fin HE3.out HBF.out.2 k6 HF4.out.2.1 HF4.out.2.2 hf6
                    have hS6 : w6.cell? ⟨Q1, 0, none⟩ = some (.pointer (some ⟨eo.H, 0, none⟩)) ∧ w6.cell? ⟨P, 2, none⟩ = some (.int .i64 off) ∧ w6.cell? ⟨P, 4, none⟩ = some (.bool more) := HSX.out w6 (by obtain ⟨_, c, _⟩ := HR.out; exact c.ch)
                    clear hf6 k6 hft hS HF4 HP9
                    go_wp2
                    refine ⟨rfl, hK _ _ hS6 ?_⟩
                    clear hK K
                    refine MixH.takes [false, false, false, false, false, false, false, false, false, false, false, false, false, false, false, true] 0 (by kernel_rfl) (by kernel_rfl) (by decide) (by kernel_rfl) hS6 (fun K hK => ?_)
                    simp only [Mix.pick]
                    repeat (go_big_quiet_step (fail))
                    refine wpQuiet_nil (hK _ ?_)
                    clear hK K
                    refine MixH.done (by kernel_rfl) ?_
                    clear hS6
                    go_wp2
                    go_meet
                    exact ⟨F10, rfl, rfl, HR⟩
                · refine ⟨_, rfl, fun K hK => ?_⟩
                  go_wp2
                  obtain ⟨wq13, hwq13⟩ : ∃ x, x = wA.alloc (.cells #[.int .i64 0, .int .i64 0, .bool false] 33) := ⟨_, rfl⟩
                  obtain ⟨F15, hF15⟩ : ∃ x, x = wA.heap.size := ⟨_, rfl⟩
                  have hbq : Below wA.heap.size wA wq13 := by rw [hwq13]; exact (Below.refl _ _).alloc (Nat.le_refl _) _
                  have HA1 : Hid (Ch (fun _ => False) w3 wq13) := HA0.out.trans (Ch.ofBelow (S := fun _ => False) hbq) (fun _ _ q => q)
                  have HQ14 : Hid (Ch (fun q => q = BF) w3 wq13) := HA.out.trans (Ch.ofBelow (S := fun _ => False) hbq) (fun _ _ q => q.elim)
                  have HF1 : Hid (FtAt wq13 F15 ftz ∧ w3.heap.size ≤ F15) := ⟨by rw [hwq13, hF15]; exact FtAt_new _ _, by rw [hF15]; exact HA.out.size⟩
                  have HF1' := HF1
                  have hS' : wq13.cell? ⟨Q1, 0, none⟩ = some (.pointer (some ⟨eo.H, 0, none⟩)) ∧ wq13.cell? ⟨P, 2, none⟩ = some (.int .i64 off) ∧ wq13.cell? ⟨P, 4, none⟩ = some (.bool more) := HSX.out wq13 (HQ14.out.mono (fun _ _ q => .inr q))
                  rw [← hwq13, ← hF15]
                  clear hwq13 hF15 hbq hS HA HF1'
                  have hS := hS'
                  clear hS'
                  refine ⟨rfl, hK _ _ hS ?_⟩
                  clear hK K
                  refine MixH.many [6] 6 (by kernel_rfl) (by decide) (by kernel_rfl) ?_
                  intro i hi
                  simp only [List.mem_cons, List.not_mem_nil, or_false] at hi
                  subst hi
                  refine ⟨_, rfl, fun K hK => ?_⟩
                  go_wp2_with fail
                  refine Calls.mono (QL.out wq13 HA1.out) ?_
                  rintro ex wq16 ⟨rfl, hb', hc'⟩
                  have HQ17 : Hid (Ch (fun q => q = BF) w3 wq16) := HQ14.out.trans hc' (fun _ _ q => q)
                  have HBL : Hid (BfAt wq16 BF (layL d l N N)) := hb'
                  have HF2 : Hid (FtAt wq16 F15 ftz) := HF1.out.1.ch hc' (fun q => by have q' : F15 = BF := q; have h1 := HF1.out.2; have h2 := HBF.out.2; omega)
                  have HF3 : Hid (w3.heap.size ≤ F15 ∧ F15 < wq16.heap.size) := ⟨HF1.out.2, HF2.out.lt⟩
                  have hS' : wq16.cell? ⟨Q1, 0, none⟩ = some (.pointer (some ⟨eo.H, 0, none⟩)) ∧ wq16.cell? ⟨P, 2, none⟩ = some (.int .i64 off) ∧ wq16.cell? ⟨P, 4, none⟩ = some (.bool more) := HSX.out wq16 (HQ17.out.mono (fun _ _ q => .inr q))
                  clear hb' hc' hS HQ14 HF1
                  have hS := hS'
                  clear hS'
                  (try go_wp2)
                  refine ⟨rfl, hK _ _ hS ?_⟩
                  clear hK K
                  refine MixH.many [9] 5 (by kernel_rfl) (by decide) (by kernel_rfl) ?_
                  intro i hi
                  simp only [List.mem_cons, List.not_mem_nil, or_false] at hi
                  subst hi
                  refine ⟨_, rfl, fun K hK => ?_⟩
                  go_wp2_with fail
                  refine Calls.mono (QP.out wq16 HQ17.out HBL.out) ?_
                  rintro ex wq18 ⟨rfl, hm⟩
                  obtain ⟨v', hpp, hnf⟩ := stg_put HE3.out HBF.out.1 HQ17.out HBL.out hm
                  have HP9 : Hid (PP w3 eo s' BF (layL d l N N) v' wq18 ∧ ∀ F, w3.heap.size ≤ F → F < wq16.heap.size → ∀ x, HB eo.H v' x → x ≠ F) := ⟨hpp, hnf⟩
                  have HF4 : Hid (FtAt wq18 F15 ftz ∧ w3.heap.size ≤ F15 ∧ ∀ x, HB eo.H v' x → x ≠ F15) := by
                    obtain ⟨_, _, _, m3⟩ := hm
                    refine ⟨HF2.out.ch m3 (fun q => ?_), HF3.out.1, hnf _ HF3.out.1 HF3.out.2⟩
                    have h1 := HE3.out.h.lt _ q
                    have h2 := HF3.out.1
                    omega
                  have hS' : wq18.cell? ⟨Q1, 0, none⟩ = some (.pointer (some ⟨eo.H, 0, none⟩)) ∧ wq18.cell? ⟨P, 2, none⟩ = some (.int .i64 off) ∧ wq18.cell? ⟨P, 4, none⟩ = some (.bool more) := HSX.out wq18 hpp.ch
                  clear hm hpp hnf hS HQ17 HBL HF2 HF3
                  have hS := hS'
                  clear hS'
                  go_wp2
                  refine ⟨rfl, hK _ _ hS ?_⟩
                  clear hK K
                  refine MixH.takes [false, false, false, false, false, false, false, false, false, false, true, true, true] 2 (by kernel_rfl) (by kernel_rfl) (by decide) (by kernel_rfl) hS (fun K hK => ?_)
                  simp only [Mix.pick]
                  repeat (go_big_quiet_step (fail))
                  refine wpQuiet_nil (hK _ ?_)
                  clear hK K
                  have hft := HF4.out.1
                  refine MixH.one [false, false, false, false, false, false, false, false, false, false, false, false, false, false, true] 1 14 _ rfl rfl (by kernel_rfl) (by kernel_rfl) (fun K hK => ?_)
                  simp only [Mix.pick]
                  go_wp2_with (first | (refine wpList_store_Ft (.tmp 15) (.tmp 101) rfl rfl F15 ftz #[.int .i64 (NW : Int), .int .i64 OL, .bool SM] rfl rfl (ft_one _ _ _) rfl rfl hft rfl ?_))
                  intro w6 hf6 k6
                  have HR : Hid (RES4 w3 eo s' BF (layL d l N N) #[.int .i64 (NW : Int), .int .i64 OL, .bool SM] w6 F15) := HP9.out.1.fin HE3.out HBF.out.2 k6 HF4.out.2.1 HF4.out.2.2 hf6
                  have hS6 : w6.cell? ⟨Q1, 0, none⟩ = some (.pointer (some ⟨eo.H, 0, none⟩)) ∧ w6.cell? ⟨P, 2, none⟩ = some (.int .i64 off) ∧ w6.cell? ⟨P, 4, none⟩ = some (.bool more) := HSX.out w6 (by obtain ⟨_, c, _⟩ := HR.out; exact c.ch)
                  clear hf6 k6 hft hS HF4 HP9
                  go_wp2
                  refine ⟨rfl, hK _ _ hS6 ?_⟩
                  clear hK K
                  refine MixH.takes [false, false, false, false, false, false, false, false, false, false, false, false, false, false, false, true] 0 (by kernel_rfl) (by kernel_rfl) (by decide) (by kernel_rfl) hS6 (fun K hK => ?_)
                  simp only [Mix.pick]
                  repeat (go_big_quiet_step (fail))
                  refine wpQuiet_nil (hK _ ?_)
                  clear hK K
                  refine MixH.done (by kernel_rfl) ?_
                  clear hS6
                  go_wp2
                  go_meet
                  exact ⟨F15, rfl, rfl, HR⟩
              case rest =>
                obtain ⟨F, rfl, rfl, HR⟩ := hcut
                clear t0 t1 t2 t4 QL QP
                as_aux_lemma =>
                  obtain ⟨v', hp, hf, hF⟩ := HR.out
                  have HM : Hid (PP w3 eo s' BF (layL d l N N) v' wc ∧ FtAt wc F #[.int .i64 (NW : Int), .int .i64 OL, .bool SM] ∧ w3.heap.size ≤ F) := ⟨hp, hf, hF⟩
                  obtain ⟨z0, z2, z4⟩ := HSX.out wc hp.ch
                  have z1 := HSR.out wc hp.ch
                  have HQR : Hid _ := QR.out wc hp.r hp.ch
                  clear hp hf hF HR QR z0
                  go_wp2_with fail
                  refine Calls.mono HQR.out ?_
                  rintro e1 w5 ⟨rfl, u', a1, a2, a3⟩
                  have H5 : Hid (RAt w5 eo.R s' u' ∧ (∀ x, RB eo.R u' x → RB eo.R eo.u x ∨ wc.heap.size ≤ x) ∧ Ch (RB eo.R eo.u) wc w5) := ⟨a1, a2, a3⟩
                  clear a1 a2 a3 HQR z1 z2 z4
                  go_upto_region 23 with fail
                  obtain ⟨G, hG⟩ : ∃ G, G = w5.heap.size := ⟨_, rfl⟩
                  obtain ⟨w6, hw6⟩ : ∃ w6, w6 = w5.alloc (.cells #[.int .i64 (NW : Int), .int .i64 OL, .bool SM] 33) := ⟨_, rfl⟩
                  have hb6 : Below w5.heap.size w5 w6 := by rw [hw6]; exact (Below.refl _ _).alloc (Nat.le_refl _) _
                  have hfG : FtAt w6 G #[.int .i64 (NW : Int), .int .i64 OL, .bool SM] := by rw [hw6, hG]; exact FtAt_new _ _
                  have hfF : FtAt w6 F #[.int .i64 (NW : Int), .int .i64 OL, .bool SM] := (HM.out.2.1.ch H5.out.2.2 (fun q => by have h1 := HE3.out.r.lt F q; have h2 := HM.out.2.2; omega)).below hb6
                  have HC6 : Hid (Ch (fun x => EB eo x ∨ x = BF) w3 w6) := (HM.out.1.ch.trans H5.out.2.2 (fun _ _ q => .inl (.inr q))).trans (Ch.ofBelow (S := fun _ => False) hb6) (fun _ _ q => q.elim)
                  have HB6 : Hid (BfAt w6 BF (layL d l N N)) := (HM.out.1.bf.ch H5.out.2.2 (fun q => HBF.out.1 (.inr q))).ch (Ch.ofBelow (S := fun _ => False) hb6) id
                  have HE6 : Hid (EOk w6 ⟨eo.H, eo.R, s', v', u'⟩ ∧ ∀ x, EB ⟨eo.H, eo.R, s', v', u'⟩ x → EB eo x ∨ w3.heap.size ≤ x) := by
                    have hd : ∀ x, HB eo.H v' x → ¬ RB eo.R eo.u x := by
                      intro x hx q
                      rcases HM.out.1.k x hx with z | z
                      · exact HE3.out.dis x z q
                      · have := HE3.out.r.lt x q; omega
                    have hs := HM.out.1.ch.size
                    refine ⟨⟨(HM.out.1.h.ch H5.out.2.2 (fun x hx q => hd x hx q)).below hb6, H5.out.1.below hb6, HST.out.1, ?_⟩, ?_⟩
                    · intro x hx q
                      rcases H5.out.2.1 x q with z | z
                      · exact hd x hx z
                      · have := HM.out.1.h.lt x hx; omega
                    · rintro x (hx | hx)
                      · rcases HM.out.1.k x hx with z | z
                        · exact .inl (.inl z)
                        · exact .inr z
                      · rcases H5.out.2.1 x hx with z | z
                        · exact .inl (.inr z)
                        · exact .inr (by omega)
                  rw [← hG, ← hw6]
                  have QS : Hid _ := lies_any w6 BF N l d HB6.out hN1 ua n uc HN.out (by omega) (HSG.out.2 w6 HC6.out)
                  have g1 : (E != E) = false := by simp
                  clear hG hw6 hb6 H5 HM
                  go_wp2_with (first | (refine wpList_load_Ft (.tmp 15) rfl F _ rfl rfl hfF rfl ?_) | (refine wpList_load_Ft (.tmp 17) rfl G _ rfl rfl hfG rfl ?_) | (refine wpList_neq_fit (.tmp 118) (.tmp 119) rfl _ _ _ rfl rfl rfl ?_))
                  refine Calls.mono QS.out ?_
                  rintro e2 w7 ⟨rfl, hb7⟩
                  have H9 : Hid (∃ (p : Nat → Ent) (sz ia ib : Nat) (b : BV) (l : List Nat), HAg W (k + 3) p sz ia ib PS BK b BF N P7 #[.pointer (some ⟨e2.H, 0, none⟩), .pointer (some ⟨e2.R, 0, none⟩)] l w7) := by
                    have e6 := HE6.out
                    rw [HEO.out] at e6
                    have c6 := HC6.out
                    rw [HEO.out] at c6
                    obtain ⟨p', h'⟩ := H3.out.1.putL jo HEI.out (e6.1.below hb7) rfl rfl rfl e6.2 (c6.trans (Ch.ofBelow (S := fun _ => False) hb7) (fun _ _ q => q.elim)) HST.out.2 (HB6.out.ch (Ch.ofBelow (S := fun _ => False) hb7) id) (layL_len _ _ _ _)
                    exact ⟨_, _, _, _, _, _, h'⟩
                  clear hb7 QS HE6 HC6 HB6 hfF hfG H3
                  go_wp2
                  go_roundw
                  case rel => exact ⟨k + 1, by omega, by go_num, H9⟩
                  case measure => simp [intOf]; omega
          · have n1 : (kd != 1) = true := by rw [bne_iff_ne]; exact k1
            clear k1
            by_cases k2 : 2 ≤ kd
            · by_cases k4 : kd ≤ 4
              · as_aux_lemma =>
                  have QA : Hid (Calls Try.prog 23 #[.agg #[.pointer (some ⟨eo.H, 0, none⟩), .pointer (some ⟨eo.R, 0, none⟩)], .int .i64 kd, .pointer (some ⟨BK, 0, none⟩)] w2 fun r w' => r = .returned (.bool true) ∧ BkE w2 BK b w') := asked_any w2 eo (by rw [HEO.out]; exact H2.out.pl.ok _ HEI.out) kd BK b H2.out.pl.bk H2.out.pl.mb H2.out.pl.mg (by have := H2.out.pl.le; omega) (by have := H2.out.pl.lg; omega)
                  go_wp2_with (first | (refine wpList_load_Pr (.tmp 13) rfl Q1 _ rfl rfl hQ rfl ?_))
                  refine Calls.mono QA.out ?_
                  rintro e8 w6 ⟨rfl, hm⟩
                  obtain ⟨b', h6⟩ := H2.out.ask hm
                  have H9 : Hid (∃ (p : Nat → Ent) (sz ia ib : Nat) (b : BV) (l : List Nat), HAg W (k + 3) p sz ia ib PS BK b BF N P7 #[.pointer (some ⟨e2.H, 0, none⟩), .pointer (some ⟨e2.R, 0, none⟩)] l w6) := ⟨_, _, _, _, _, _, h6⟩
                  clear hm h6 QA H2 hQ s0 s2 s3 s4
                  go_wp2
                  go_roundw
                  case rel => exact ⟨k + 1, by omega, by go_num, H9⟩
                  case measure => simp [intOf]; omega
              · have k5 : ¬ kd ≤ 4 := k4
                clear k4
                as_aux_lemma =>
                  have H9 : Hid (∃ (p : Nat → Ent) (sz ia ib : Nat) (b : BV) (l : List Nat), HAg W (k + 3) p sz ia ib PS BK b BF N P7 #[.pointer (some ⟨e2.H, 0, none⟩), .pointer (some ⟨e2.R, 0, none⟩)] l w2) := ⟨_, _, _, _, _, _, H2.out.next⟩
                  clear H2
                  go_wp2
                  go_roundw
                  case rel => exact ⟨k + 1, by omega, by go_num, H9⟩
                  case measure => simp [intOf]; omega
            · as_aux_lemma =>
                have H9 : Hid (∃ (p : Nat → Ent) (sz ia ib : Nat) (b : BV) (l : List Nat), HAg W (k + 3) p sz ia ib PS BK b BF N P7 #[.pointer (some ⟨e2.H, 0, none⟩), .pointer (some ⟨e2.R, 0, none⟩)] l w2) := ⟨_, _, _, _, _, _, H2.out.next⟩
                clear H2
                go_wp2
                go_roundw
                case rel => exact ⟨k + 1, by omega, by go_num, H9⟩
                case measure => simp [intOf]; omega
  · have QM : Hid _ := made_no W a0 hmx none none
    clear hmx
    as_aux_lemma =>
      go_enter Try.func8, Try.ntmps8
      go_wp2_with fail
      refine Calls.mono QM.out ?_
      rintro e0 w1 ⟨rfl, hb1⟩
      have H1 : Hid (Below W.heap.size W w1) := hb1
      clear hb1 QM
      go_upto_region 2 with fail
      obtain ⟨P5, hP5⟩ : ∃ P5, P5 = w1.heap.size := ⟨_, rfl⟩
      obtain ⟨w2, hw2⟩ : ∃ w2, w2 = w1.alloc (.cells #[.pointer none, .pointer none] 56) := ⟨_, rfl⟩
      have hP : PrAt w2 P5 #[.pointer none, .pointer none] := by rw [hw2, hP5]; exact PrAt_new _ _
      have HB2 : Hid (Below w1.heap.size w1 w2 ∧ w1.heap.size = P5 ∧ P5 < w2.heap.size) := ⟨by rw [hw2]; exact (Below.refl _ _).alloc (Nat.le_refl _) _, hP5.symm, by rw [hw2, hP5]; simp⟩
      rw [← hP5, ← hw2]
      clear hP5 hw2
      go_wp2_with fail
      refine Calls.mono (QM2.out w2) ?_
      rintro e9 w3 ⟨e2, rfl, he2, hes2, hlo2, hb3⟩
      have H3 : Hid (EOk w3 e2 ∧ e2.s.tk.length ≤ 2 ∧ (∀ x, EB e2 x → w2.heap.size ≤ x) ∧ Below w2.heap.size w2 w3) := ⟨he2, by rw [hes2]; simp [nw], hlo2, hb3⟩
      have hP3 := hP.below hb3
      unfold pv
      clear he2 hes2 hlo2 hb3 QM2 hP
      go_upto_region 5 with fail
      obtain ⟨P7, hP7⟩ : ∃ P7, P7 = w3.heap.size := ⟨_, rfl⟩
      obtain ⟨w4, hw4⟩ : ∃ w4, w4 = w3.alloc (.cells #[.pointer (some ⟨e2.H, 0, none⟩), .pointer (some ⟨e2.R, 0, none⟩)] 56) := ⟨_, rfl⟩
      have hQ : PrAt w4 P7 #[.pointer (some ⟨e2.H, 0, none⟩), .pointer (some ⟨e2.R, 0, none⟩)] := by rw [hw4, hP7]; exact PrAt_new _ _
      have hb4 : Below w3.heap.size w3 w4 := by rw [hw4]; exact (Below.refl _ _).alloc (Nat.le_refl _) _
      have hP4 := hP3.below hb4
      have HB4 : Hid (Below w3.heap.size w3 w4 ∧ w3.heap.size = P7) := ⟨hb4, hP7.symm⟩
      have c7 : w4.cell? ⟨P7, 0, none⟩ = some (.pointer (some ⟨e2.H, 0, none⟩)) := (hQ.cell 0).trans rfl
      rw [← hP7, ← hw4]
      clear hP7 hw4 hb4 hP3
      have H4 : Hid (EOk w4 e2 ∧ e2.s.tk.length ≤ 2 ∧ (∀ x, EB e2 x → w2.heap.size ≤ x ∧ x < P7) ∧ Below W.heap.size W w4 ∧ P5 < w2.heap.size ∧ w2.heap.size ≤ P7 ∧ W.heap.size ≤ P5 ∧ P7 < w4.heap.size) := by
        have g := H3.out
        have hW := H1.out.trans (HB2.out.1.mono H1.out.size)
        have hW4 := (hW.trans (g.2.2.2.mono hW.size)).trans (HB4.out.1.mono (Nat.le_trans hW.size g.2.2.2.size))
        refine ⟨g.1.below HB4.out.1, g.2.1, fun x hx => ⟨g.2.2.1 x hx, by rw [← HB4.out.2]; exact g.1.lt x hx⟩, hW4, HB2.out.2.2, by rw [← HB4.out.2]; exact g.2.2.2.size, by rw [← HB2.out.2.1]; exact H1.out.size, hQ.lt⟩
      have c5 : w4.cell? ⟨P5, 0, none⟩ = some (.pointer none) := (hP4.cell 0).trans rfl
      go_upto_region 8 with fail
      go_wp2_with (first | (refine wpList_load_Pr (.tmp 7) rfl P7 _ rfl rfl hQ rfl ?_) | (refine wpList_store_Pr (.tmp 5) (.tmp 42) rfl rfl P5 #[.pointer none, .pointer none] #[.pointer (some ⟨e2.H, 0, none⟩), .pointer (some ⟨e2.R, 0, none⟩)] rfl rfl (pr_one _ _) rfl rfl hP4 rfl ?_))
      intro w9 hP9 k9
      have hQ9 := hQ.ch k9 (fun q => by have q' : P7 = P5 := q; have := H4.out; omega)
      have H9 : Hid (EOk w9 e2 ∧ e2.s.tk.length ≤ 2 ∧ (∀ x, EB e2 x → w2.heap.size ≤ x ∧ x < P7) ∧ Below W.heap.size W w9 ∧ P5 < w2.heap.size ∧ w2.heap.size ≤ P7 ∧ W.heap.size ≤ P5 ∧ P7 < w9.heap.size) := by
        have g := H4.out
        refine ⟨g.1.ch k9 (fun x hx q => ?_), g.2.1, g.2.2.1, g.2.2.2.1.trans (k9.below (fun x q => ?_) g.2.2.2.1.size), g.2.2.2.2.1, g.2.2.2.2.2.1, g.2.2.2.2.2.2.1, hQ9.lt⟩
        · have q' : x = P5 := q
          have := (g.2.2.1 x hx).1
          omega
        · have q' : x = P5 := q
          omega
      clear H1 H3 HB2 HB4 hP4 hQ k9 c5 c7 H4
      go_upto_region 9 with fail
      go_upto_region 10 with (first | (refine wpList_load_Pr (.tmp 5) rfl P5 _ rfl rfl hP9 rfl ?_) | (refine wpList_load_Pr (.tmp 7) rfl P7 _ rfl rfl hQ9 rfl ?_))
      obtain ⟨PS, hPSe⟩ : ∃ PS, PS = w9.heap.size := ⟨_, rfl⟩
      obtain ⟨wA, hwA⟩ : ∃ wA, wA = w9.alloc (.cells (psV e2 e2) 66) := ⟨_, rfl⟩
      have hbA : Below w9.heap.size w9 wA := by rw [hwA]; exact (Below.refl _ _).alloc (Nat.le_refl _) _
      have hPA : PsAt wA PS (psV e2 e2) := by rw [hwA, hPSe]; exact heap_alloc_new _ _
      have HWA : Hid (w9.heap.size = PS ∧ wA.heap.size = PS + 1 ∧ Below w9.heap.size w9 wA) := ⟨hPSe.symm, by rw [hwA, hPSe]; simp, hbA⟩
      have e1x : w9.alloc (.cells #[.pointer (some ⟨e2.H, 0, none⟩), .pointer (some ⟨e2.R, 0, none⟩), .pointer (some ⟨e2.H, 0, none⟩), .pointer (some ⟨e2.R, 0, none⟩)] 66) = wA := hwA.symm
      rw [e1x, HWA.out.1]
      clear e1x hwA hPSe hbA
      go_wp2_with (first | (at_make; refine wpList_make_full _ rfl _ _ 22 rfl wA.heap.size 5 i0 _ 1 Try.underlying22 hi0 hz0 hz1 _ _ _ _ 8262 rfl rfl rfl rfl (by rw [hz2]; omega) (by unfold maxLen; omega) (Nat.le_refl _) ?_))
      intro wB r1 r2
      obtain ⟨BF, hBF⟩ : ∃ BF, BF = wA.heap.size := ⟨_, rfl⟩
      obtain ⟨N, hN⟩ : ∃ N, N = 8262 := ⟨_, rfl⟩
      have HNN : Hid (N = 8262) := hN
      have hbB : Below wA.heap.size wA wB := (Below.refl _ _).grown r2 (Nat.le_refl _) (by intro q hq; simp at hq)
      have hbf : BfAt wB BF l0 := by
        refine bf_of (B := wA.heap.size) (N := 8262) ?_
        rw [HL0.out.2, hBF]
        exact r1
      have HWB : Hid (BF = PS + 1 ∧ BF < wB.heap.size ∧ Below wA.heap.size wA wB) := ⟨by rw [hBF]; exact HWA.out.2.1, hbf.lt, hbB⟩
      have hPB := hPA.ch (Ch.ofBelow (S := fun _ => False) hbB) id
      rw [← hBF, ← hN]
      have hN1 : N ≤ 10000 := by omega
      have hN2 : 4096 ≤ N := by omega
      clear hBF hN r1 r2 hbB hPA hi0 hz0 hz1 hz2
      go_upto_region 12 with fail
      obtain ⟨BK, hBKe⟩ : ∃ BK, BK = wB.heap.size := ⟨_, rfl⟩
      obtain ⟨wC, hwC⟩ : ∃ wC, wC = wB.alloc (.cells #[.slice none 0 0, .slice none 0 0, .slice none 0 0, .slice none 0 0] 65) := ⟨_, rfl⟩
      have hbC : Below wB.heap.size wB wC := by rw [hwC]; exact (Below.refl _ _).alloc (Nat.le_refl _) _
      have hBK := bk_new wB wC hwC
      rw [← hBKe] at hBK
      have HZ : Hid (Below w9.heap.size w9 wC ∧ PsAt wC PS (psV e2 e2) ∧ BkM wC BK bz0 ∧ BfAt wC BF l0 ∧ w9.heap.size = PS ∧ BF = PS + 1 ∧ BF < BK) := by
        have h1 := HWA.out.2.2
        have h2 := HWB.out.2.2
        refine ⟨(h1.trans (h2.mono h1.size)).trans (hbC.mono (Nat.le_trans h1.size h2.size)), hPB.ch (Ch.ofBelow (S := fun _ => False) hbC) id, hBK, hbf.ch (Ch.ofBelow (S := fun _ => False) hbC) id, HWA.out.1, HWB.out.1, by rw [hBKe]; exact HWB.out.2.1⟩
      rw [← hBKe, ← hwC]
      clear hBKe hwC hbC hBK hPB hbf HWA HWB
      have HL : Hid (∃ (p : Nat → Ent) (sz ia ib : Nat) (b : BV) (l : List Nat), HAg W 2 p sz ia ib PS BK b BF N P7 #[.pointer (some ⟨e2.H, 0, none⟩), .pointer (some ⟨e2.R, 0, none⟩)] l wC) := by
        have g := H9.out
        have z := HZ.out
        refine ⟨_, _, _, _, _, l0, HPl.start1 (e := e2) (g.2.2.2.1.trans (z.1.mono g.2.2.2.1.size)) (g.1.below z.1) (fun x hx => by have := (g.2.2.1 x hx).1; omega) 2 g.2.1 z.2.1 (by omega) (fun q => by have := (g.2.2.1 _ q).2; omega) z.2.2.1 (by omega) (fun q => by have := (g.2.2.1 _ q).2; omega) (by omega), z.2.2.2.1, by rw [HL0.out.1, HNN.out], by omega, fun i _ q => by have := (g.2.2.1 _ q).2; omega, fun q => by have := bz0_bb q; omega, by omega, hQ9.below z.1, fun i _ q => by have := (g.2.2.1 _ q).2; omega, fun q => by have := bz0_bb q; omega, by omega⟩
      clear HZ H9 hP9 hQ9 HL0
      go_wp2
      go_loopw [11] (fun ix wr => ∃ k : Nat, (k ≤ len ∧ k ≤ 120) ∧ ix = .int .i64 (k : Int) ∧ Hid (∃ (p : Nat → Ent) (sz ia ib : Nat) (b : BV) (l : List Nat), HAg W (k + 2) p sz ia ib PS BK b BF N P7 #[.pointer (some ⟨e2.H, 0, none⟩), .pointer (some ⟨e2.R, 0, none⟩)] l wr)) (fun ix _ => len - (intOf ix).toNat)
      case atStart => exact ⟨0, by omega, rfl, HL⟩
      case round =>
        obtain ⟨k, hk, rfl, HH⟩ := hrel
        clear HL
        obtain ⟨p, sz, ia, ib, b, l, hpl⟩ := HH.out
        have H0 : Hid (HAg W (k + 2) p sz ia ib PS BK b BF N P7 #[.pointer (some ⟨e2.H, 0, none⟩), .pointer (some ⟨e2.R, 0, none⟩)] l wr) := hpl
        clear hpl HH
        by_cases hge : len ≤ k ∨ 120 ≤ k
        · by_cases h1 : len ≤ k
          · have d1 : ¬ (k : Int) < (len : Int) := by omega
            clear hge h1
            as_aux_lemma =>
              obtain ⟨ea, hea⟩ : ∃ ea, ea = p ia := ⟨_, rfl⟩
              obtain ⟨eb, heb⟩ : ∃ eb, eb = p ib := ⟨_, rfl⟩
              have HEE : Hid (ea = p ia ∧ eb = p ib) := ⟨hea, heb⟩
              have hpc := H0.out.pl.ps
              rw [← hea, ← heb] at hpc
              have y0 : wr.cell? ⟨PS, 0, none⟩ = some (.pointer (some ⟨ea.H, 0, none⟩)) := hpc.cell 0
              have y1 : wr.cell? ⟨PS, 1, none⟩ = some (.pointer (some ⟨ea.R, 0, none⟩)) := hpc.cell 1
              clear hea heb hpc
              have QA1 : Hid (Calls Try.prog 23 #[.agg #[.pointer (some ⟨ea.H, 0, none⟩), .pointer (some ⟨ea.R, 0, none⟩)], .int .i64 4, .pointer (some ⟨BK, 0, none⟩)] wr fun r w' => r = .returned (.bool true) ∧ BkE wr BK b w') := asked_any wr ea (by rw [HEE.out.1]; exact H0.out.pl.ok _ H0.out.pl.ha) 4 BK b H0.out.pl.bk H0.out.pl.mb H0.out.pl.mg (by have := H0.out.pl.le; omega) (by have := H0.out.pl.lg; omega)
              go_wp2_with fail
              refine Calls.mono QA1.out ?_
              rintro f1 w1 ⟨rfl, hm⟩
              obtain ⟨b1, h1⟩ := H0.out.ask hm
              have HH1 : Hid (HAg W (k + 3) p sz ia ib PS BK b1 BF N P7 #[.pointer (some ⟨e2.H, 0, none⟩), .pointer (some ⟨e2.R, 0, none⟩)] l w1) := h1
              have hps1 := h1.pl.ps
              rw [← HEE.out.1, ← HEE.out.2] at hps1
              have y01 : w1.cell? ⟨PS, 0, none⟩ = some (.pointer (some ⟨ea.H, 0, none⟩)) := hps1.cell 0
              have y11 : w1.cell? ⟨PS, 1, none⟩ = some (.pointer (some ⟨ea.R, 0, none⟩)) := hps1.cell 1
              have y21 : w1.cell? ⟨PS, 2, none⟩ = some (.pointer (some ⟨eb.H, 0, none⟩)) := hps1.cell 2
              have y31 : w1.cell? ⟨PS, 3, none⟩ = some (.pointer (some ⟨eb.R, 0, none⟩)) := hps1.cell 3
              clear hm h1 hps1 QA1 y0 y1 H0
              have QA2 : Hid (Calls Try.prog 23 #[.agg #[.pointer (some ⟨ea.H, 0, none⟩), .pointer (some ⟨ea.R, 0, none⟩)], .int .i64 2, .pointer (some ⟨BK, 0, none⟩)] w1 fun r w' => r = .returned (.bool true) ∧ BkE w1 BK b1 w') := asked_any w1 ea (by rw [HEE.out.1]; exact HH1.out.pl.ok _ HH1.out.pl.ha) 2 BK b1 HH1.out.pl.bk HH1.out.pl.mb HH1.out.pl.mg (by have := HH1.out.pl.le; omega) (by have := HH1.out.pl.lg; omega)
              go_wp2_with fail
              refine Calls.mono QA2.out ?_
              rintro f2 w2 ⟨rfl, hm⟩
              obtain ⟨b2, h2⟩ := HH1.out.ask hm
              have HH2 : Hid (HAg W (k + 4) p sz ia ib PS BK b2 BF N P7 #[.pointer (some ⟨e2.H, 0, none⟩), .pointer (some ⟨e2.R, 0, none⟩)] l w2) := h2
              have hps2 := h2.pl.ps
              rw [← HEE.out.1, ← HEE.out.2] at hps2
              have y02 : w2.cell? ⟨PS, 0, none⟩ = some (.pointer (some ⟨ea.H, 0, none⟩)) := hps2.cell 0
              have y12 : w2.cell? ⟨PS, 1, none⟩ = some (.pointer (some ⟨ea.R, 0, none⟩)) := hps2.cell 1
              have y22 : w2.cell? ⟨PS, 2, none⟩ = some (.pointer (some ⟨eb.H, 0, none⟩)) := hps2.cell 2
              have y32 : w2.cell? ⟨PS, 3, none⟩ = some (.pointer (some ⟨eb.R, 0, none⟩)) := hps2.cell 3
              clear hm h2 hps2 QA2 y01 y11 y21 y31 HH1
              have QA3 : Hid (Calls Try.prog 23 #[.agg #[.pointer (some ⟨eb.H, 0, none⟩), .pointer (some ⟨eb.R, 0, none⟩)], .int .i64 4, .pointer (some ⟨BK, 0, none⟩)] w2 fun r w' => r = .returned (.bool true) ∧ BkE w2 BK b2 w') := asked_any w2 eb (by rw [HEE.out.2]; exact HH2.out.pl.ok _ HH2.out.pl.hb) 4 BK b2 HH2.out.pl.bk HH2.out.pl.mb HH2.out.pl.mg (by have := HH2.out.pl.le; omega) (by have := HH2.out.pl.lg; omega)
              go_wp2_with fail
              refine Calls.mono QA3.out ?_
              rintro f3 w3 ⟨rfl, hm⟩
              obtain ⟨b3, h3⟩ := HH2.out.ask hm
              have HH3 : Hid (HAg W (k + 5) p sz ia ib PS BK b3 BF N P7 #[.pointer (some ⟨e2.H, 0, none⟩), .pointer (some ⟨e2.R, 0, none⟩)] l w3) := h3
              have hps3 := h3.pl.ps
              rw [← HEE.out.1, ← HEE.out.2] at hps3
              have y03 : w3.cell? ⟨PS, 0, none⟩ = some (.pointer (some ⟨ea.H, 0, none⟩)) := hps3.cell 0
              have y13 : w3.cell? ⟨PS, 1, none⟩ = some (.pointer (some ⟨ea.R, 0, none⟩)) := hps3.cell 1
              have y23 : w3.cell? ⟨PS, 2, none⟩ = some (.pointer (some ⟨eb.H, 0, none⟩)) := hps3.cell 2
              have y33 : w3.cell? ⟨PS, 3, none⟩ = some (.pointer (some ⟨eb.R, 0, none⟩)) := hps3.cell 3
              clear hm h3 hps3 QA3 y02 y12 y22 y32 HH2
              have QWH : Hid _ := bookWhole_any w3 BK b3 HH3.out.pl.bk HH3.out.pl.mb HH3.out.pl.mg (by have := HH3.out.pl.le; omega) (by have := HH3.out.pl.lg; omega)
              go_wp2_with fail
              refine Calls.mono QWH.out ?_
              rintro f4 w4 ⟨rfl, hb4⟩
              have HB4 : Hid (Below W.heap.size W w4) := (HH3.out.below hb4).pl.bel
              have c7 : w4.cell? ⟨P7, 0, none⟩ = some (.pointer (some ⟨e2.H, 0, none⟩)) := ((HH3.out.below hb4).pr.cell 0).trans rfl
              clear hb4 QWH HH3 y03 y13 y23 y33
              go_wp2
              go_ret
              exact ⟨rfl, HB4.out⟩
          · have d1 : (k : Int) < (len : Int) := by omega
            have d2 : ¬ (k : Int) < 120 := by omega
            clear hge h1
            as_aux_lemma =>
              obtain ⟨ea, hea⟩ : ∃ ea, ea = p ia := ⟨_, rfl⟩
              obtain ⟨eb, heb⟩ : ∃ eb, eb = p ib := ⟨_, rfl⟩
              have HEE : Hid (ea = p ia ∧ eb = p ib) := ⟨hea, heb⟩
              have hpc := H0.out.pl.ps
              rw [← hea, ← heb] at hpc
              have y0 : wr.cell? ⟨PS, 0, none⟩ = some (.pointer (some ⟨ea.H, 0, none⟩)) := hpc.cell 0
              have y1 : wr.cell? ⟨PS, 1, none⟩ = some (.pointer (some ⟨ea.R, 0, none⟩)) := hpc.cell 1
              clear hea heb hpc
              have QA1 : Hid (Calls Try.prog 23 #[.agg #[.pointer (some ⟨ea.H, 0, none⟩), .pointer (some ⟨ea.R, 0, none⟩)], .int .i64 4, .pointer (some ⟨BK, 0, none⟩)] wr fun r w' => r = .returned (.bool true) ∧ BkE wr BK b w') := asked_any wr ea (by rw [HEE.out.1]; exact H0.out.pl.ok _ H0.out.pl.ha) 4 BK b H0.out.pl.bk H0.out.pl.mb H0.out.pl.mg (by have := H0.out.pl.le; omega) (by have := H0.out.pl.lg; omega)
              go_wp2_with fail
              refine Calls.mono QA1.out ?_
              rintro f1 w1 ⟨rfl, hm⟩
              obtain ⟨b1, h1⟩ := H0.out.ask hm
              have HH1 : Hid (HAg W (k + 3) p sz ia ib PS BK b1 BF N P7 #[.pointer (some ⟨e2.H, 0, none⟩), .pointer (some ⟨e2.R, 0, none⟩)] l w1) := h1
              have hps1 := h1.pl.ps
              rw [← HEE.out.1, ← HEE.out.2] at hps1
              have y01 : w1.cell? ⟨PS, 0, none⟩ = some (.pointer (some ⟨ea.H, 0, none⟩)) := hps1.cell 0
              have y11 : w1.cell? ⟨PS, 1, none⟩ = some (.pointer (some ⟨ea.R, 0, none⟩)) := hps1.cell 1
              have y21 : w1.cell? ⟨PS, 2, none⟩ = some (.pointer (some ⟨eb.H, 0, none⟩)) := hps1.cell 2
              have y31 : w1.cell? ⟨PS, 3, none⟩ = some (.pointer (some ⟨eb.R, 0, none⟩)) := hps1.cell 3
              clear hm h1 hps1 QA1 y0 y1 H0
              have QA2 : Hid (Calls Try.prog 23 #[.agg #[.pointer (some ⟨ea.H, 0, none⟩), .pointer (some ⟨ea.R, 0, none⟩)], .int .i64 2, .pointer (some ⟨BK, 0, none⟩)] w1 fun r w' => r = .returned (.bool true) ∧ BkE w1 BK b1 w') := asked_any w1 ea (by rw [HEE.out.1]; exact HH1.out.pl.ok _ HH1.out.pl.ha) 2 BK b1 HH1.out.pl.bk HH1.out.pl.mb HH1.out.pl.mg (by have := HH1.out.pl.le; omega) (by have := HH1.out.pl.lg; omega)
              go_wp2_with fail
              refine Calls.mono QA2.out ?_
              rintro f2 w2 ⟨rfl, hm⟩
              obtain ⟨b2, h2⟩ := HH1.out.ask hm
              have HH2 : Hid (HAg W (k + 4) p sz ia ib PS BK b2 BF N P7 #[.pointer (some ⟨e2.H, 0, none⟩), .pointer (some ⟨e2.R, 0, none⟩)] l w2) := h2
              have hps2 := h2.pl.ps
              rw [← HEE.out.1, ← HEE.out.2] at hps2
              have y02 : w2.cell? ⟨PS, 0, none⟩ = some (.pointer (some ⟨ea.H, 0, none⟩)) := hps2.cell 0
              have y12 : w2.cell? ⟨PS, 1, none⟩ = some (.pointer (some ⟨ea.R, 0, none⟩)) := hps2.cell 1
              have y22 : w2.cell? ⟨PS, 2, none⟩ = some (.pointer (some ⟨eb.H, 0, none⟩)) := hps2.cell 2
              have y32 : w2.cell? ⟨PS, 3, none⟩ = some (.pointer (some ⟨eb.R, 0, none⟩)) := hps2.cell 3
              clear hm h2 hps2 QA2 y01 y11 y21 y31 HH1
              have QA3 : Hid (Calls Try.prog 23 #[.agg #[.pointer (some ⟨eb.H, 0, none⟩), .pointer (some ⟨eb.R, 0, none⟩)], .int .i64 4, .pointer (some ⟨BK, 0, none⟩)] w2 fun r w' => r = .returned (.bool true) ∧ BkE w2 BK b2 w') := asked_any w2 eb (by rw [HEE.out.2]; exact HH2.out.pl.ok _ HH2.out.pl.hb) 4 BK b2 HH2.out.pl.bk HH2.out.pl.mb HH2.out.pl.mg (by have := HH2.out.pl.le; omega) (by have := HH2.out.pl.lg; omega)
              go_wp2_with fail
              refine Calls.mono QA3.out ?_
              rintro f3 w3 ⟨rfl, hm⟩
              obtain ⟨b3, h3⟩ := HH2.out.ask hm
              have HH3 : Hid (HAg W (k + 5) p sz ia ib PS BK b3 BF N P7 #[.pointer (some ⟨e2.H, 0, none⟩), .pointer (some ⟨e2.R, 0, none⟩)] l w3) := h3
              have hps3 := h3.pl.ps
              rw [← HEE.out.1, ← HEE.out.2] at hps3
              have y03 : w3.cell? ⟨PS, 0, none⟩ = some (.pointer (some ⟨ea.H, 0, none⟩)) := hps3.cell 0
              have y13 : w3.cell? ⟨PS, 1, none⟩ = some (.pointer (some ⟨ea.R, 0, none⟩)) := hps3.cell 1
              have y23 : w3.cell? ⟨PS, 2, none⟩ = some (.pointer (some ⟨eb.H, 0, none⟩)) := hps3.cell 2
              have y33 : w3.cell? ⟨PS, 3, none⟩ = some (.pointer (some ⟨eb.R, 0, none⟩)) := hps3.cell 3
              clear hm h3 hps3 QA3 y02 y12 y22 y32 HH2
              have QWH : Hid _ := bookWhole_any w3 BK b3 HH3.out.pl.bk HH3.out.pl.mb HH3.out.pl.mg (by have := HH3.out.pl.le; omega) (by have := HH3.out.pl.lg; omega)
              go_wp2_with fail
              refine Calls.mono QWH.out ?_
              rintro f4 w4 ⟨rfl, hb4⟩
              have HB4 : Hid (Below W.heap.size W w4) := (HH3.out.below hb4).pl.bel
              have c7 : w4.cell? ⟨P7, 0, none⟩ = some (.pointer (some ⟨e2.H, 0, none⟩)) := ((HH3.out.below hb4).pr.cell 0).trans rfl
              clear hb4 QWH HH3 y03 y13 y23 y33
              go_wp2
              go_ret
              exact ⟨rfl, HB4.out⟩
        · have hkl : k < len := by omega
          have hk2 : k < 120 := by omega
          have d1 : (k : Int) < (len : Int) := by omega
          have d2 : (k : Int) < 120 := by omega
          have hkx : k < ops.length := by rw [HLN.out]; exact hkl
          obtain ⟨pb, po, rfl, hpb, hok, hc0, hc1, hc2, hc3, hc4⟩ := sts_at HPS.out k hkx
          obtain ⟨q, hq⟩ : ∃ q, q = ops[k]'hkx := ⟨_, rfl⟩
          rw [← hq] at hok hc0 hc1 hc2 hc3 hc4
          obtain ⟨kd, ob, off, qa, qc, qs, more⟩ := q
          simp only at hc0 hc1 hc2 hc3 hc4
          obtain ⟨qn, hqn⟩ : ∃ qn, qn = qs.length := ⟨_, rfl⟩
          rw [← hqn] at hc3
          have hbW := H0.out.pl.bel
          have i0 : wr.cell? ⟨pb, po + k * 5, none⟩ = some (.int .i64 kd) := (World.cell?_of_block (hbW.block pb hpb)).trans hc0
          have i1 : wr.cell? ⟨pb, po + k * 5 + 1, none⟩ = some (.int .i64 ob) := (World.cell?_of_block (hbW.block pb hpb)).trans hc1
          have i2 : wr.cell? ⟨pb, po + k * 5 + 2, none⟩ = some (.int .i64 off) := (World.cell?_of_block (hbW.block pb hpb)).trans hc2
          have i3 : wr.cell? ⟨pb, po + k * 5 + 3, none⟩ = some (.slice qa qn qc) := (World.cell?_of_block (hbW.block pb hpb)).trans hc3
          have i4 : wr.cell? ⟨pb, po + k * 5 + 4, none⟩ = some (.bool more) := (World.cell?_of_block (hbW.block pb hpb)).trans hc4
          have HQN : Hid (qs.length = qn) := hqn.symm
          have HQC : Hid (qn ≤ qc) := by rw [hqn]; exact hok.le
          have HQS : Hid (Seg .u8 W qa (toI qs)) := hok.seg
          have HQ8 : Hid (∀ x ∈ qs, x < 256) := hok.b8
          clear hge hok hc0 hc1 hc2 hc3 hc4 hq hqn hkx hbW hkl
          go_upto_region 16 with fail
          obtain ⟨P, hP⟩ : ∃ P, P = wr.heap.size := ⟨_, rfl⟩
          obtain ⟨w1, hw1⟩ : ∃ w1, w1 = wr.alloc (.cells #[.int .i64 kd, .int .i64 ob, .int .i64 off, .slice qa qn qc, .bool more] 68) := ⟨_, rfl⟩
          have hb1 : Below wr.heap.size wr w1 := by rw [hw1]; exact (Below.refl _ _).alloc (Nat.le_refl _) _
          have hBx : w1.heap[P]? = some (.cells #[.int .i64 kd, .int .i64 ob, .int .i64 off, .slice qa qn qc, .bool more] 68 (0, 0)) := by rw [hw1, hP]; exact heap_alloc_new _ _
          have hcx : ∀ j, w1.cell? ⟨P, j, none⟩ = (#[.int .i64 kd, .int .i64 ob, .int .i64 off, .slice qa qn qc, .bool more] : Array Value)[j]? := by intro j; simp [World.cell?, hBx]
          have x0 := hcx 0
          have x1 := hcx 1
          have x2 := hcx 2
          have x3 := hcx 3
          have x4 := hcx 4
          have HP1 : Hid (w1.heap.size = P + 1) := by show _ = _; rw [hw1, hP]; simp
          have H1 : Hid (HAg W (k + 2) p sz ia ib PS BK b BF N P7 #[.pointer (some ⟨e2.H, 0, none⟩), .pointer (some ⟨e2.R, 0, none⟩)] l w1) := H0.out.below hb1
          have HN1 : Hid (¬ BB BK b P ∧ (∀ i, i < sz → ¬ EB (p i) P) ∧ BF ≠ P) := ⟨fun q => by have := H0.out.pl.bk.lt P q; omega, fun i hi q => by have := (H0.out.pl.ok i hi).lt P q; omega, by have := H0.out.bf.lt; omega⟩
          rw [← hP, ← hw1]
          clear hP hw1 hb1 hBx hcx H0 i0 i1 i2 i3 i4
          simp only [List.getElem?_toArray, List.getElem?_cons_zero, List.getElem?_cons_succ] at x0 x1 x2 x3 x4
          have ha := and1 ob
          obtain ⟨o, ho, ho2⟩ : ∃ o : Nat, (o : Int) = ob % 2 ∧ o < 2 := ⟨(ob % 2).toNat, by omega, by omega⟩
          have ha2 : bits .and .i64 ob 1 = (o : Int) := by rw [ha, ho]
          have ho3 : (o : Int) < 2 := by omega
          clear ha ho
          obtain ⟨jo, hjo⟩ : ∃ jo, jo = if o = 0 then ia else ib := ⟨_, rfl⟩
          have HEI : Hid (jo < sz) := by
            show _ < _
            rw [hjo]
            split
            · exact H1.out.pl.ha
            · exact H1.out.pl.hb
          obtain ⟨eo, heo⟩ : ∃ eo, eo = p jo := ⟨_, rfl⟩
          have HEO : Hid (eo = p jo) := heo
          have hpc : w1.cell? ⟨PS, o * 2, none⟩ = some (.pointer (some ⟨eo.H, 0, none⟩)) ∧ w1.cell? ⟨PS, o * 2 + 1, none⟩ = some (.pointer (some ⟨eo.R, 0, none⟩)) := by
            have hp := H1.out.pl.ps
            rw [heo, hjo]
            match o, ho2 with
            | 0, _ => exact ⟨hp.cell 0, hp.cell 1⟩
            | 1, _ => exact ⟨hp.cell 2, hp.cell 3⟩
          obtain ⟨hpc1, hpc2⟩ := hpc
          clear heo hjo
          go_upto_region 17 with fail
          obtain ⟨Q1, hQ1⟩ : ∃ Q1, Q1 = w1.heap.size := ⟨_, rfl⟩
          obtain ⟨w2, hw2⟩ : ∃ w2, w2 = w1.alloc (.cells #[.pointer (some ⟨eo.H, 0, none⟩), .pointer (some ⟨eo.R, 0, none⟩)] 56) := ⟨_, rfl⟩
          have hb2 : Below w1.heap.size w1 w2 := by rw [hw2]; exact (Below.refl _ _).alloc (Nat.le_refl _) _
          have hQ : PrAt w2 Q1 #[.pointer (some ⟨eo.H, 0, none⟩), .pointer (some ⟨eo.R, 0, none⟩)] := by rw [hw2, hQ1]; exact PrAt_new _ _
          have H2 : Hid (HAg W (k + 2) p sz ia ib PS BK b BF N P7 #[.pointer (some ⟨e2.H, 0, none⟩), .pointer (some ⟨e2.R, 0, none⟩)] l w2) := H1.out.below hb2
          have HN2 : Hid (¬ BB BK b Q1 ∧ (∀ i, i < sz → ¬ EB (p i) Q1) ∧ BF ≠ Q1) := ⟨fun q => by have := H1.out.pl.bk.lt Q1 q; omega, fun i hi q => by have := (H1.out.pl.ok i hi).lt Q1 q; omega, by have := H1.out.bf.lt; omega⟩
          have hPl : P < w1.heap.size := by have := HP1.out; omega
          have s0 := (World.cell?_of_block (hb2.block P hPl)).trans x0
          have s2 := (World.cell?_of_block (hb2.block P hPl)).trans x2
          have s3 := (World.cell?_of_block (hb2.block P hPl)).trans x3
          have s4 := (World.cell?_of_block (hb2.block P hPl)).trans x4
          rw [← hQ1, ← hw2]
          clear hQ1 hw2 hb2 x0 x1 x2 x3 x4 hpc1 hpc2 H1 HP1 hPl ha2 ho3 ho2
          by_cases k1 : kd = 1
          · subst k1
            have n1 : ((1 : Int) != 1) = false := rfl
            as_aux_lemma =>
              obtain ⟨d, hd⟩ : ∃ d, d = qs.take 4096 := ⟨_, rfl⟩
              obtain ⟨n, hn⟩ : ∃ n, n = d.length := ⟨_, rfl⟩
              have hn4 : n ≤ 4096 := by rw [hn, hd, List.length_take]; omega
              have HD8 : Hid (∀ x, x ∈ d → x < 256) := by rw [hd]; exact fun x hx => HQ8.out x (List.mem_of_mem_take hx)
              have QC : Hid (Calls Try.prog 10 #[.slice qa qn qc] w2 fun r w' => ∃ ua uc, r = .returned (.slice ua n uc) ∧ w'.ownsRow w2.heap.size 5 1 (.slice ua n uc) n ((toI d).map (Value.int .u8)) ∧ Below w2.heap.size w2 w') := by
                have := cut_any w2 qa qn qc qs HQN.out HQC.out (HQS.out.old H2.out.pl.bel)
                rw [← hd, ← hn] at this
                exact this
              have HN : Hid (d.length = n) := hn.symm
              clear hd hn HQS HQC HQN HQ8
              go_wp2_with fail
              refine Calls.mono QC.out ?_
              rintro e7 w3 ⟨ua, uc, rfl, ho3, hb3⟩
              have H3 : Hid (HAg W (k + 2) p sz ia ib PS BK b BF N P7 #[.pointer (some ⟨e2.H, 0, none⟩), .pointer (some ⟨e2.R, 0, none⟩)] l w3 ∧ w3.ownsRow w2.heap.size 5 1 (.slice ua n uc) n ((toI d).map (Value.int .u8))) := ⟨H2.out.below hb3, ho3⟩
              have t0 : w3.cell? ⟨Q1, 0, none⟩ = some (.pointer (some ⟨eo.H, 0, none⟩)) := ((hQ.below hb3).cell 0).trans rfl
              have t1 : w3.cell? ⟨Q1, 1, none⟩ = some (.pointer (some ⟨eo.R, 0, none⟩)) := ((hQ.below hb3).cell 1).trans rfl
              have hPl : P < w2.heap.size := World.block_lt_of_cell? _ _ s2
              have t2 := (World.cell?_of_block (hb3.block P hPl)).trans s2
              have t4 := (World.cell?_of_block (hb3.block P hPl)).trans s4
              have HE3 : Hid (EOk w3 eo) := by rw [HEO.out]; exact H3.out.1.pl.ok _ HEI.out
              have HBF : Hid (¬ EB eo BF ∧ BF < w3.heap.size) := ⟨by rw [HEO.out]; exact H3.out.1.fe _ HEI.out, H3.out.1.bf.lt⟩
              have HTK : Hid (eo.s.tk.length ≤ k + 2) := by rw [HEO.out]; exact H3.out.1.pl.tk _ HEI.out
              have HDR : Hid (∀ q, (Value.slice ua n uc).ownBlock = some q → ¬ EB eo q ∧ q ≠ BF) := by
                intro q hq
                have h1 := (ho3.lt q hq).1
                refine ⟨fun z => ?_, ?_⟩
                · rw [HEO.out] at z
                  have := (H2.out.pl.ok _ HEI.out).lt q z
                  omega
                · have := H2.out.bf.lt
                  omega
              have HSG : Hid (n ≤ uc ∧ ∀ A : World, Ch (fun x => EB eo x ∨ x = BF) w3 A → Seg .u8 A ua (toI d)) := by
                obtain ⟨a', c', q1, hsg, _, hc, _⟩ := owns_seg ho3 (k := .u8)
                simp only [Value.slice.injEq, true_and] at q1
                obtain ⟨rfl, rfl⟩ := q1
                refine ⟨hc, fun A hA => hA.seg hsg (fun x _ hx q => ?_)⟩
                have h1 := HDR.out x.block (by rw [hx]; rfl)
                exact q.elim h1.1 h1.2
              have HSX : Hid (∀ A : World, Ch (fun x => EB eo x ∨ x = BF) w3 A → (A.cell? ⟨Q1, 0, none⟩ = some (.pointer (some ⟨eo.H, 0, none⟩)) ∧ A.cell? ⟨P, 2, none⟩ = some (.int .i64 off) ∧ A.cell? ⟨P, 4, none⟩ = some (.bool more))) := by
                have n1 : ¬ (EB eo Q1 ∨ Q1 = BF) := fun q => q.elim (fun z => HN2.out.2.1 _ HEI.out (by rw [← HEO.out]; exact z)) (fun z => HN2.out.2.2 z.symm)
                have n2 : ¬ (EB eo P ∨ P = BF) := fun q => q.elim (fun z => HN1.out.2.1 _ HEI.out (by rw [← HEO.out]; exact z)) (fun z => HN1.out.2.2 z.symm)
                exact fun A hA => ⟨hA.cell t0 n1, hA.cell t2 n2, hA.cell t4 n2⟩
              have HSR : Hid (∀ A : World, Ch (fun x => EB eo x ∨ x = BF) w3 A → A.cell? ⟨Q1, 1, none⟩ = some (.pointer (some ⟨eo.R, 0, none⟩))) := by
                have n1 : ¬ (EB eo Q1 ∨ Q1 = BF) := fun q => q.elim (fun z => HN2.out.2.1 _ HEI.out (by rw [← HEO.out]; exact z)) (fun z => HN2.out.2.2 z.symm)
                exact fun A hA => hA.cell t1 n1
              obtain ⟨s', hs'⟩ : ∃ s', s' = pS eo.s off d more := ⟨_, rfl⟩
              obtain ⟨NW, hNW⟩ : ∃ NW, NW = pN eo.s off d more := ⟨_, rfl⟩
              obtain ⟨OL, hOL⟩ : ∃ OL, OL = pO eo.s off d more := ⟨_, rfl⟩
              obtain ⟨SM, hSM⟩ : ∃ SM, SM = pM eo.s off d more := ⟨_, rfl⟩
              obtain ⟨E, hE⟩ : ∃ E, E = rf eo.s off n more := ⟨_, rfl⟩
              have HST : Hid (Inv s' ∧ s'.tk.length ≤ k + 3) := ⟨by rw [hs']; exact pS_inv HE3.out.inv off d more HD8.out, by rw [hs']; exact pS_tk1 _ _ _ _ HTK.out⟩
              have QL : Hid (∀ A : World, Ch (fun _ => False) w3 A → Calls Try.prog 25 #[.slice (some ⟨BF, 0, none⟩) N N, .slice ua n uc] A fun r w' => r = .returned (.slice (some ⟨BF, 0, none⟩) n N) ∧ BfAt w' BF (layL d l N N) ∧ Ch (fun q => q = BF) A w') := by
                intro A hA
                exact lay_any A BF N l (H3.out.1.bf.ch hA id) H3.out.1.ll hN1 d ua n uc HN.out (by omega) (HSG.out.2 A (hA.mono (fun _ _ q => q.elim)))
              have QP : Hid (∀ A : World, Ch (fun q => q = BF) w3 A → BfAt A BF (layL d l N N) → Calls Try.prog 13 #[.pointer (some ⟨eo.H, 0, none⟩), .int .i64 off, .slice (some ⟨BF, 0, none⟩) n N, .bool more] A fun r w' => r = .returned (.tuple #[.agg #[.int .i64 (NW : Int), .int .i64 OL, .bool SM], .int .i64 E]) ∧ Moved A eo.H eo.v w' s') := by
                intro A hA hbA
                rw [hs', hNW, hOL, hSM, hE, ← HN.out]
                refine put_u A eo.H eo.s eo.v (HE3.out.h.ch hA (fun x hx q => HBF.out.1 (by have q' : x = BF := q; rw [← q']; exact .inl hx))) HE3.out.inv off d _ N more HD8.out (by have := HTK.out; omega) (by rw [HN.out]; omega) (hbA.seg (by rw [HN.out]; omega)) (fun x _ hx q => ?_)
                simp only [Option.some.injEq] at hx
                rw [← hx] at q
                exact HBF.out.1 (.inl q)
              have QR : Hid (∀ A : World, RAt A eo.R eo.s eo.u → Ch (fun x => EB eo x ∨ x = BF) w3 A → Calls Try.prog 26 #[.pointer (some ⟨eo.R, 0, none⟩), .int .i64 off, .slice ua n uc, .bool more] A fun r w' => r = .returned (.tuple #[.agg #[.int .i64 (NW : Int), .int .i64 OL, .bool SM], .int .i64 E]) ∧ ∃ u', RAt w' eo.R s' u' ∧ (∀ x, RB eo.R u' x → RB eo.R eo.u x ∨ A.heap.size ≤ x) ∧ Ch (RB eo.R eo.u) A w') := by
                intro A hA hcA
                rw [hs', hNW, hOL, hSM, hE, ← HN.out]
                refine putR_u A eo.R eo.s eo.u hA HE3.out.inv off d ua uc more HD8.out (by have := HTK.out; omega) (by rw [HN.out]; exact HSG.out.1) (HSG.out.2 A hcA) (fun x _ hx q => ?_)
                exact (HDR.out x.block (by rw [hx]; rfl)).1 (.inr q)
              clear hs' hNW hOL hSM hE QC ho3 hb3 H2 hQ hPl s0 s2 s3 s4 HTK
              go_upto_region 21 with fail
              go_cut [15, 16] (fun x y wx => ∃ F : Nat, x = .pointer (some ⟨F, 0, none⟩) ∧ y = .int .i64 E ∧ Hid (RES4 w3 eo s' BF (layL d l N N) #[.int .i64 (NW : Int), .int .i64 OL, .bool SM] wx F))
              case first =>
                refine MixH.start (fun A => A.cell? ⟨Q1, 0, none⟩ = some (.pointer (some ⟨eo.H, 0, none⟩)) ∧ A.cell? ⟨P, 2, none⟩ = some (.int .i64 off) ∧ A.cell? ⟨P, 4, none⟩ = some (.bool more)) (by kernel_rfl) ?_
                obtain ⟨wA, hwA⟩ : ∃ wA, wA = w3.drew := ⟨_, rfl⟩
                have HA : Hid (Ch (fun q => q = BF) w3 wA) := by rw [hwA]; exact (Ch.refl _ _).drew
                have hS : wA.cell? ⟨Q1, 0, none⟩ = some (.pointer (some ⟨eo.H, 0, none⟩)) ∧ wA.cell? ⟨P, 2, none⟩ = some (.int .i64 off) ∧ wA.cell? ⟨P, 4, none⟩ = some (.bool more) := HSX.out wA (HA.out.mono (fun _ _ q => .inr q))
                have HA0 : Hid (Ch (fun _ => False) w3 wA) := by rw [hwA]; exact (Ch.refl _ _).drew
                rw [← hwA]
                clear hwA
                refine MixH.takes [true] 15 (by kernel_rfl) (by kernel_rfl) (by decide) (by kernel_rfl) hS (fun K hK => ?_)
                simp only [Mix.pick]
                repeat (go_big_quiet_step (fail))
                refine wpQuiet_nil (hK _ ?_)
                clear hK K
                refine MixH.take 14 1 _ (.pointer (some ⟨eo.H, 0, none⟩)) rfl (by kernel_rfl) (by kernel_rfl) (by kernel_rfl) (by kernel_rfl) (yields_pH (.tmp 91) rfl ⟨Q1, 0, none⟩ _ rfl rfl (fun A hA => hA.1)) hS (fun a' ha => ?_)
                simp only [Act.put, List.setIfInBounds_toArray, List.set_cons_succ, List.set_cons_zero] at ha
                subst ha
                refine MixH.takes [false, false, true] 13 (by kernel_rfl) (by kernel_rfl) (by decide) (by kernel_rfl) hS (fun K hK => ?_)
                simp only [Mix.pick]
                repeat (go_big_quiet_step (fail))
                refine wpQuiet_nil (hK _ ?_)
                clear hK K
                refine MixH.take 12 3 _ (.int .i64 off) rfl (by kernel_rfl) (by kernel_rfl) (by kernel_rfl) (by kernel_rfl) (yields_int (.tmp 93) rfl ⟨P, 2, none⟩ _ rfl rfl (fun A hA => hA.2.1)) hS (fun a' ha => ?_)
                simp only [Act.put, List.setIfInBounds_toArray, List.set_cons_succ, List.set_cons_zero] at ha
                subst ha
                refine MixH.takes [false, false, false, false, true, true, false, true] 9 (by kernel_rfl) (by kernel_rfl) (by decide) (by kernel_rfl) hS (fun K hK => ?_)
                simp only [Mix.pick]
                repeat (go_big_quiet_step (fail))
                refine wpQuiet_nil (hK _ ?_)
                clear hK K
                refine MixH.take 8 8 _ (.bool more) rfl (by kernel_rfl) (by kernel_rfl) (by kernel_rfl) (by kernel_rfl) (yields_bool (.tmp 98) rfl ⟨P, 4, none⟩ _ rfl rfl (fun A hA => hA.2.2)) hS (fun a' ha => ?_)
                simp only [Act.put, List.setIfInBounds_toArray, List.set_cons_succ, List.set_cons_zero] at ha
                subst ha
                refine MixH.many [6, 13] 7 (by kernel_rfl) (by decide) (by kernel_rfl) ?_
                intro i hi
                simp only [List.mem_cons, List.not_mem_nil, or_false] at hi
                rcases hi with rfl | rfl
                · refine ⟨_, rfl, fun K hK => ?_⟩
                  go_wp2_with fail
                  refine Calls.mono (QL.out wA HA0.out) ?_
                  rintro ex wq1 ⟨rfl, hb', hc'⟩
                  have HQ2 : Hid (Ch (fun q => q = BF) w3 wq1) := HA.out.trans hc' (fun _ _ q => q)
                  have HBL : Hid (BfAt wq1 BF (layL d l N N)) := hb'
                  have hS' : wq1.cell? ⟨Q1, 0, none⟩ = some (.pointer (some ⟨eo.H, 0, none⟩)) ∧ wq1.cell? ⟨P, 2, none⟩ = some (.int .i64 off) ∧ wq1.cell? ⟨P, 4, none⟩ = some (.bool more) := HSX.out wq1 (HQ2.out.mono (fun _ _ q => .inr q))
                  clear hb' hc' hS HA
                  have hS := hS'
                  clear hS'
                  (try go_wp2)
                  refine ⟨rfl, hK _ _ hS ?_⟩
                  clear hK K
                  refine MixH.many [9, 13] 6 (by kernel_rfl) (by decide) (by kernel_rfl) ?_
                  intro i hi
                  simp only [List.mem_cons, List.not_mem_nil, or_false] at hi
                  rcases hi with rfl | rfl
                  · refine ⟨_, rfl, fun K hK => ?_⟩
                    go_wp2_with fail
                    refine Calls.mono (QP.out wq1 HQ2.out HBL.out) ?_
                    rintro ex wq3 ⟨rfl, hm⟩
                    obtain ⟨v', hpp, hnf⟩ := stg_put HE3.out HBF.out.1 HQ2.out HBL.out hm
                    have HP9 : Hid (PP w3 eo s' BF (layL d l N N) v' wq3 ∧ ∀ F, w3.heap.size ≤ F → F < wq1.heap.size → ∀ x, HB eo.H v' x → x ≠ F) := ⟨hpp, hnf⟩
                    have hS' : wq3.cell? ⟨Q1, 0, none⟩ = some (.pointer (some ⟨eo.H, 0, none⟩)) ∧ wq3.cell? ⟨P, 2, none⟩ = some (.int .i64 off) ∧ wq3.cell? ⟨P, 4, none⟩ = some (.bool more) := HSX.out wq3 hpp.ch
                    clear hm hpp hnf hS HQ2 HBL
                    have hS := hS'
                    clear hS'
                    go_wp2
                    refine ⟨rfl, hK _ _ hS ?_⟩
                    clear hK K
                    refine MixH.takes [false, false, false, false, false, false, false, false, false, false, true, true, true] 3 (by kernel_rfl) (by kernel_rfl) (by decide) (by kernel_rfl) hS (fun K hK => ?_)
                    simp only [Mix.pick]
                    repeat (go_big_quiet_step (fail))
                    refine wpQuiet_nil (hK _ ?_)
                    clear hK K
                    refine MixH.many [13] 2 (by kernel_rfl) (by decide) (by kernel_rfl) ?_
                    intro i hi
                    simp only [List.mem_cons, List.not_mem_nil, or_false] at hi
                    subst hi
                    refine ⟨_, rfl, fun K hK => ?_⟩
                    go_wp2
                    obtain ⟨wq5, hwq5⟩ : ∃ x, x = wq3.alloc (.cells #[.int .i64 0, .int .i64 0, .bool false] 33) := ⟨_, rfl⟩
                    obtain ⟨F7, hF7⟩ : ∃ x, x = wq3.heap.size := ⟨_, rfl⟩
                    have hbq : Below wq3.heap.size wq3 wq5 := by rw [hwq5]; exact (Below.refl _ _).alloc (Nat.le_refl _) _
                    have HPn : Hid (PP w3 eo s' BF (layL d l N N) v' wq5) := HP9.out.1.below hbq
                    have HF4 : Hid (FtAt wq5 F7 ftz ∧ w3.heap.size ≤ F7 ∧ ∀ x, HB eo.H v' x → x ≠ F7) := ⟨by rw [hwq5, hF7]; exact FtAt_new _ _, by rw [hF7]; exact HP9.out.1.ch.size, fun x hx q => by have := HP9.out.1.h.lt x hx; omega⟩
                    have hS' : wq5.cell? ⟨Q1, 0, none⟩ = some (.pointer (some ⟨eo.H, 0, none⟩)) ∧ wq5.cell? ⟨P, 2, none⟩ = some (.int .i64 off) ∧ wq5.cell? ⟨P, 4, none⟩ = some (.bool more) := HSX.out wq5 HPn.out.ch
                    rw [← hwq5, ← hF7]
                    have HP9' : Hid (PP w3 eo s' BF (layL d l N N) v' wq5 ∧ True) := ⟨HPn.out, trivial⟩
                    clear hwq5 hF7 hbq hS HP9 HPn
                    have HP9 := HP9'
                    have hS := hS'
                    clear hS' HP9'
                    refine ⟨rfl, hK _ _ hS ?_⟩
                    clear hK K
                    have hft := HF4.out.1
                    refine MixH.one [false, false, false, false, false, false, false, false, false, false, false, false, false, false, true] 1 14 _ rfl rfl (by kernel_rfl) (by kernel_rfl) (fun K hK => ?_)
                    simp only [Mix.pick]
                    go_wp2_with (first | (refine wpList_store_Ft (.tmp 15) (.tmp 101) rfl rfl F7 ftz #[.int .i64 (NW : Int), .int .i64 OL, .bool SM] rfl rfl (ft_one _ _ _) rfl rfl hft rfl ?_))
                    intro w6 hf6 k6
                    have HR : Hid (RES4 w3 eo s' BF (layL d l N N) #[.int .i64 (NW : Int), .int .i64 OL, .bool SM] w6 F7) := HP9.out.1.fin HE3.out HBF.out.2 k6 HF4.out.2.1 HF4.out.2.2 hf6
                    have hS6 : w6.cell? ⟨Q1, 0, none⟩ = some (.pointer (some ⟨eo.H, 0, none⟩)) ∧ w6.cell? ⟨P, 2, none⟩ = some (.int .i64 off) ∧ w6.cell? ⟨P, 4, none⟩ = some (.bool more) := HSX.out w6 (by obtain ⟨_, c, _⟩ := HR.out; exact c.ch)
                    clear hf6 k6 hft hS HF4 HP9
                    go_wp2
                    refine ⟨rfl, hK _ _ hS6 ?_⟩
                    clear hK K
                    refine MixH.takes [false, false, false, false, false, false, false, false, false, false, false, false, false, false, false, true] 0 (by kernel_rfl) (by kernel_rfl) (by decide) (by kernel_rfl) hS6 (fun K hK => ?_)
                    simp only [Mix.pick]
                    repeat (go_big_quiet_step (fail))
                    refine wpQuiet_nil (hK _ ?_)
                    clear hK K
                    refine MixH.done (by kernel_rfl) ?_
                    clear hS6
                    go_wp2
                    go_meet
                    exact ⟨F7, rfl, rfl, HR⟩
                  · refine ⟨_, rfl, fun K hK => ?_⟩
                    go_wp2
                    obtain ⟨wq8, hwq8⟩ : ∃ x, x = wq1.alloc (.cells #[.int .i64 0, .int .i64 0, .bool false] 33) := ⟨_, rfl⟩
                    obtain ⟨F10, hF10⟩ : ∃ x, x = wq1.heap.size := ⟨_, rfl⟩
                    have hbq : Below wq1.heap.size wq1 wq8 := by rw [hwq8]; exact (Below.refl _ _).alloc (Nat.le_refl _) _
                    have HQ9 : Hid (Ch (fun q => q = BF) w3 wq8) := HQ2.out.trans (Ch.ofBelow (S := fun _ => False) hbq) (fun _ _ q => q.elim)
                    have HBL2 : Hid (BfAt wq8 BF (layL d l N N)) := HBL.out.ch (Ch.ofBelow (S := fun _ => False) hbq) id
                    have HF2 : Hid (FtAt wq8 F10 ftz) := by rw [hwq8, hF10]; exact FtAt_new _ _
                    have HF3 : Hid (w3.heap.size ≤ F10 ∧ F10 < wq8.heap.size) := ⟨by rw [hF10]; exact HQ2.out.size, HF2.out.lt⟩
                    have hS' : wq8.cell? ⟨Q1, 0, none⟩ = some (.pointer (some ⟨eo.H, 0, none⟩)) ∧ wq8.cell? ⟨P, 2, none⟩ = some (.int .i64 off) ∧ wq8.cell? ⟨P, 4, none⟩ = some (.bool more) := HSX.out wq8 (HQ9.out.mono (fun _ _ q => .inr q))
                    rw [← hwq8, ← hF10]
                    clear hwq8 hF10 hbq hS HQ2 HBL
                    have hS := hS'
                    clear hS'
                    have HBL := HBL2
                    clear HBL2
                    refine ⟨rfl, hK _ _ hS ?_⟩
                    clear hK K
                    refine MixH.many [9] 5 (by kernel_rfl) (by decide) (by kernel_rfl) ?_
                    intro i hi
                    simp only [List.mem_cons, List.not_mem_nil, or_false] at hi
                    subst hi
                    refine ⟨_, rfl, fun K hK => ?_⟩
                    go_wp2_with fail
                    refine Calls.mono (QP.out wq8 HQ9.out HBL.out) ?_
                    rintro ex wq11 ⟨rfl, hm⟩
                    obtain ⟨v', hpp, hnf⟩ := stg_put HE3.out HBF.out.1 HQ9.out HBL.out hm
                    have HP9 : Hid (PP w3 eo s' BF (layL d l N N) v' wq11 ∧ ∀ F, w3.heap.size ≤ F → F < wq8.heap.size → ∀ x, HB eo.H v' x → x ≠ F) := ⟨hpp, hnf⟩
                    have HF4 : Hid (FtAt wq11 F10 ftz ∧ w3.heap.size ≤ F10 ∧ ∀ x, HB eo.H v' x → x ≠ F10) := by
                      obtain ⟨_, _, _, m3⟩ := hm
                      refine ⟨HF2.out.ch m3 (fun q => ?_), HF3.out.1, hnf _ HF3.out.1 HF3.out.2⟩
                      have h1 := HE3.out.h.lt _ q
                      have h2 := HF3.out.1
                      omega
                    have hS' : wq11.cell? ⟨Q1, 0, none⟩ = some (.pointer (some ⟨eo.H, 0, none⟩)) ∧ wq11.cell? ⟨P, 2, none⟩ = some (.int .i64 off) ∧ wq11.cell? ⟨P, 4, none⟩ = some (.bool more) := HSX.out wq11 hpp.ch
                    clear hm hpp hnf hS HQ9 HBL HF2 HF3
                    have hS := hS'
                    clear hS'
                    go_wp2
                    refine ⟨rfl, hK _ _ hS ?_⟩
                    clear hK K
                    refine MixH.takes [false, false, false, false, false, false, false, false, false, false, true, true, true] 2 (by kernel_rfl) (by kernel_rfl) (by decide) (by kernel_rfl) hS (fun K hK => ?_)
                    simp only [Mix.pick]
                    repeat (go_big_quiet_step (fail))
                    refine wpQuiet_nil (hK _ ?_)
                    clear hK K
                    have hft := HF4.out.1
                    refine MixH.one [false, false, false, false, false, false, false, false, false, false, false, false, false, false, true] 1 14 _ rfl rfl (by kernel_rfl) (by kernel_rfl) (fun K hK => ?_)
                    simp only [Mix.pick]
                    go_wp2_with (first | (refine wpList_store_Ft (.tmp 15) (.tmp 101) rfl rfl F10 ftz #[.int .i64 (NW : Int), .int .i64 OL, .bool SM] rfl rfl (ft_one _ _ _) rfl rfl hft rfl ?_))
                    intro w6 hf6 k6
                    have HR : Hid (RES4 w3 eo s' BF (layL d l N N) #[.int .i64 (NW : Int), .int .i64 OL, .bool SM] w6 F10) := HP9.out.1.fin HE3.out HBF.out.2 k6 HF4.out.2.1 HF4.out.2.2 hf6
                    have hS6 : w6.cell? ⟨Q1, 0, none⟩ = some (.pointer (some ⟨eo.H, 0, none⟩)) ∧ w6.cell? ⟨P, 2, none⟩ = some (.int .i64 off) ∧ w6.cell? ⟨P, 4, none⟩ = some (.bool more) := HSX.out w6 (by obtain ⟨_, c, _⟩ := HR.out; exact c.ch)
                    clear hf6 k6 hft hS HF4 HP9
                    go_wp2
                    refine ⟨rfl, hK _ _ hS6 ?_⟩
                    clear hK K
                    refine MixH.takes [false, false, false, false, false, false, false, false, false, false, false, false, false, false, false, true] 0 (by kernel_rfl) (by kernel_rfl) (by decide) (by kernel_rfl) hS6 (fun K hK => ?_)
                    simp only [Mix.pick]
                    repeat (go_big_quiet_step (fail))
                    refine wpQuiet_nil (hK _ ?_)
                    clear hK K
                    refine MixH.done (by kernel_rfl) ?_
                    clear hS6
                    go_wp2
                    go_meet
                    exact ⟨F10, rfl, rfl, HR⟩
                · refine ⟨_, rfl, fun K hK => ?_⟩
                  go_wp2
                  obtain ⟨wq13, hwq13⟩ : ∃ x, x = wA.alloc (.cells #[.int .i64 0, .int .i64 0, .bool false] 33) := ⟨_, rfl⟩
                  obtain ⟨F15, hF15⟩ : ∃ x, x = wA.heap.size := ⟨_, rfl⟩
                  have hbq : Below wA.heap.size wA wq13 := by rw [hwq13]; exact (Below.refl _ _).alloc (Nat.le_refl _) _
                  have HA1 : Hid (Ch (fun _ => False) w3 wq13) := HA0.out.trans (Ch.ofBelow (S := fun _ => False) hbq) (fun _ _ q => q)
                  have HQ14 : Hid (Ch (fun q => q = BF) w3 wq13) := HA.out.trans (Ch.ofBelow (S := fun _ => False) hbq) (fun _ _ q => q.elim)
                  have HF1 : Hid (FtAt wq13 F15 ftz ∧ w3.heap.size ≤ F15) := ⟨by rw [hwq13, hF15]; exact FtAt_new _ _, by rw [hF15]; exact HA.out.size⟩
                  have HF1' := HF1
                  have hS' : wq13.cell? ⟨Q1, 0, none⟩ = some (.pointer (some ⟨eo.H, 0, none⟩)) ∧ wq13.cell? ⟨P, 2, none⟩ = some (.int .i64 off) ∧ wq13.cell? ⟨P, 4, none⟩ = some (.bool more) := HSX.out wq13 (HQ14.out.mono (fun _ _ q => .inr q))
                  rw [← hwq13, ← hF15]
                  clear hwq13 hF15 hbq hS HA HF1'
                  have hS := hS'
                  clear hS'
                  refine ⟨rfl, hK _ _ hS ?_⟩
                  clear hK K
                  refine MixH.many [6] 6 (by kernel_rfl) (by decide) (by kernel_rfl) ?_
                  intro i hi
                  simp only [List.mem_cons, List.not_mem_nil, or_false] at hi
                  subst hi
                  refine ⟨_, rfl, fun K hK => ?_⟩
                  go_wp2_with fail
                  refine Calls.mono (QL.out wq13 HA1.out) ?_
                  rintro ex wq16 ⟨rfl, hb', hc'⟩
                  have HQ17 : Hid (Ch (fun q => q = BF) w3 wq16) := HQ14.out.trans hc' (fun _ _ q => q)
                  have HBL : Hid (BfAt wq16 BF (layL d l N N)) := hb'
                  have HF2 : Hid (FtAt wq16 F15 ftz) := HF1.out.1.ch hc' (fun q => by have q' : F15 = BF := q; have h1 := HF1.out.2; have h2 := HBF.out.2; omega)
                  have HF3 : Hid (w3.heap.size ≤ F15 ∧ F15 < wq16.heap.size) := ⟨HF1.out.2, HF2.out.lt⟩
                  have hS' : wq16.cell? ⟨Q1, 0, none⟩ = some (.pointer (some ⟨eo.H, 0, none⟩)) ∧ wq16.cell? ⟨P, 2, none⟩ = some (.int .i64 off) ∧ wq16.cell? ⟨P, 4, none⟩ = some (.bool more) := HSX.out wq16 (HQ17.out.mono (fun _ _ q => .inr q))
                  clear hb' hc' hS HQ14 HF1
                  have hS := hS'
                  clear hS'
                  (try go_wp2)
                  refine ⟨rfl, hK _ _ hS ?_⟩
                  clear hK K
                  refine MixH.many [9] 5 (by kernel_rfl) (by decide) (by kernel_rfl) ?_
                  intro i hi
                  simp only [List.mem_cons, List.not_mem_nil, or_false] at hi
                  subst hi
                  refine ⟨_, rfl, fun K hK => ?_⟩
                  go_wp2_with fail
                  refine Calls.mono (QP.out wq16 HQ17.out HBL.out) ?_
                  rintro ex wq18 ⟨rfl, hm⟩
                  obtain ⟨v', hpp, hnf⟩ := stg_put HE3.out HBF.out.1 HQ17.out HBL.out hm
                  have HP9 : Hid (PP w3 eo s' BF (layL d l N N) v' wq18 ∧ ∀ F, w3.heap.size ≤ F → F < wq16.heap.size → ∀ x, HB eo.H v' x → x ≠ F) := ⟨hpp, hnf⟩
                  have HF4 : Hid (FtAt wq18 F15 ftz ∧ w3.heap.size ≤ F15 ∧ ∀ x, HB eo.H v' x → x ≠ F15) := by
                    obtain ⟨_, _, _, m3⟩ := hm
                    refine ⟨HF2.out.ch m3 (fun q => ?_), HF3.out.1, hnf _ HF3.out.1 HF3.out.2⟩
                    have h1 := HE3.out.h.lt _ q
                    have h2 := HF3.out.1
                    omega
                  have hS' : wq18.cell? ⟨Q1, 0, none⟩ = some (.pointer (some ⟨eo.H, 0, none⟩)) ∧ wq18.cell? ⟨P, 2, none⟩ = some (.int .i64 off) ∧ wq18.cell? ⟨P, 4, none⟩ = some (.bool more) := HSX.out wq18 hpp.ch
                  clear hm hpp hnf hS HQ17 HBL HF2 HF3
                  have hS := hS'
                  clear hS'
                  go_wp2
                  refine ⟨rfl, hK _ _ hS ?_⟩
                  clear hK K
                  refine MixH.takes [false, false, false, false, false, false, false, false, false, false, true, true, true] 2 (by kernel_rfl) (by kernel_rfl) (by decide) (by kernel_rfl) hS (fun K hK => ?_)
                  simp only [Mix.pick]
                  repeat (go_big_quiet_step (fail))
                  refine wpQuiet_nil (hK _ ?_)
                  clear hK K
                  have hft := HF4.out.1
                  refine MixH.one [false, false, false, false, false, false, false, false, false, false, false, false, false, false, true] 1 14 _ rfl rfl (by kernel_rfl) (by kernel_rfl) (fun K hK => ?_)
                  simp only [Mix.pick]
                  go_wp2_with (first | (refine wpList_store_Ft (.tmp 15) (.tmp 101) rfl rfl F15 ftz #[.int .i64 (NW : Int), .int .i64 OL, .bool SM] rfl rfl (ft_one _ _ _) rfl rfl hft rfl ?_))
                  intro w6 hf6 k6
                  have HR : Hid (RES4 w3 eo s' BF (layL d l N N) #[.int .i64 (NW : Int), .int .i64 OL, .bool SM] w6 F15) := HP9.out.1.fin HE3.out HBF.out.2 k6 HF4.out.2.1 HF4.out.2.2 hf6
                  have hS6 : w6.cell? ⟨Q1, 0, none⟩ = some (.pointer (some ⟨eo.H, 0, none⟩)) ∧ w6.cell? ⟨P, 2, none⟩ = some (.int .i64 off) ∧ w6.cell? ⟨P, 4, none⟩ = some (.bool more) := HSX.out w6 (by obtain ⟨_, c, _⟩ := HR.out; exact c.ch)
                  clear hf6 k6 hft hS HF4 HP9
                  go_wp2
                  refine ⟨rfl, hK _ _ hS6 ?_⟩
                  clear hK K
                  refine MixH.takes [false, false, false, false, false, false, false, false, false, false, false, false, false, false, false, true] 0 (by kernel_rfl) (by kernel_rfl) (by decide) (by kernel_rfl) hS6 (fun K hK => ?_)
                  simp only [Mix.pick]
                  repeat (go_big_quiet_step (fail))
                  refine wpQuiet_nil (hK _ ?_)
                  clear hK K
                  refine MixH.done (by kernel_rfl) ?_
                  clear hS6
                  go_wp2
                  go_meet
                  exact ⟨F15, rfl, rfl, HR⟩
              case rest =>
                obtain ⟨F, rfl, rfl, HR⟩ := hcut
                clear t0 t1 t2 t4 QL QP
                as_aux_lemma =>
                  obtain ⟨v', hp, hf, hF⟩ := HR.out
                  have HM : Hid (PP w3 eo s' BF (layL d l N N) v' wc ∧ FtAt wc F #[.int .i64 (NW : Int), .int .i64 OL, .bool SM] ∧ w3.heap.size ≤ F) := ⟨hp, hf, hF⟩
                  obtain ⟨z0, z2, z4⟩ := HSX.out wc hp.ch
                  have z1 := HSR.out wc hp.ch
                  have HQR : Hid _ := QR.out wc hp.r hp.ch
                  clear hp hf hF HR QR z0
                  go_wp2_with fail
                  refine Calls.mono HQR.out ?_
                  rintro e1 w5 ⟨rfl, u', a1, a2, a3⟩
                  have H5 : Hid (RAt w5 eo.R s' u' ∧ (∀ x, RB eo.R u' x → RB eo.R eo.u x ∨ wc.heap.size ≤ x) ∧ Ch (RB eo.R eo.u) wc w5) := ⟨a1, a2, a3⟩
                  clear a1 a2 a3 HQR z1 z2 z4
                  go_upto_region 23 with fail
                  obtain ⟨G, hG⟩ : ∃ G, G = w5.heap.size := ⟨_, rfl⟩
                  obtain ⟨w6, hw6⟩ : ∃ w6, w6 = w5.alloc (.cells #[.int .i64 (NW : Int), .int .i64 OL, .bool SM] 33) := ⟨_, rfl⟩
                  have hb6 : Below w5.heap.size w5 w6 := by rw [hw6]; exact (Below.refl _ _).alloc (Nat.le_refl _) _
                  have hfG : FtAt w6 G #[.int .i64 (NW : Int), .int .i64 OL, .bool SM] := by rw [hw6, hG]; exact FtAt_new _ _
                  have hfF : FtAt w6 F #[.int .i64 (NW : Int), .int .i64 OL, .bool SM] := (HM.out.2.1.ch H5.out.2.2 (fun q => by have h1 := HE3.out.r.lt F q; have h2 := HM.out.2.2; omega)).below hb6
                  have HC6 : Hid (Ch (fun x => EB eo x ∨ x = BF) w3 w6) := (HM.out.1.ch.trans H5.out.2.2 (fun _ _ q => .inl (.inr q))).trans (Ch.ofBelow (S := fun _ => False) hb6) (fun _ _ q => q.elim)
                  have HB6 : Hid (BfAt w6 BF (layL d l N N)) := (HM.out.1.bf.ch H5.out.2.2 (fun q => HBF.out.1 (.inr q))).ch (Ch.ofBelow (S := fun _ => False) hb6) id
                  have HE6 : Hid (EOk w6 ⟨eo.H, eo.R, s', v', u'⟩ ∧ ∀ x, EB ⟨eo.H, eo.R, s', v', u'⟩ x → EB eo x ∨ w3.heap.size ≤ x) := by
                    have hd : ∀ x, HB eo.H v' x → ¬ RB eo.R eo.u x := by
                      intro x hx q
                      rcases HM.out.1.k x hx with z | z
                      · exact HE3.out.dis x z q
                      · have := HE3.out.r.lt x q; omega
                    have hs := HM.out.1.ch.size
                    refine ⟨⟨(HM.out.1.h.ch H5.out.2.2 (fun x hx q => hd x hx q)).below hb6, H5.out.1.below hb6, HST.out.1, ?_⟩, ?_⟩
                    · intro x hx q
                      rcases H5.out.2.1 x q with z | z
                      · exact hd x hx z
                      · have := HM.out.1.h.lt x hx; omega
                    · rintro x (hx | hx)
                      · rcases HM.out.1.k x hx with z | z
                        · exact .inl (.inl z)
                        · exact .inr z
                      · rcases H5.out.2.1 x hx with z | z
                        · exact .inl (.inr z)
                        · exact .inr (by omega)
                  rw [← hG, ← hw6]
                  have QS : Hid _ := lies_any w6 BF N l d HB6.out hN1 ua n uc HN.out (by omega) (HSG.out.2 w6 HC6.out)
                  have g1 : (E != E) = false := by simp
                  clear hG hw6 hb6 H5 HM
                  go_wp2_with (first | (refine wpList_load_Ft (.tmp 15) rfl F _ rfl rfl hfF rfl ?_) | (refine wpList_load_Ft (.tmp 17) rfl G _ rfl rfl hfG rfl ?_) | (refine wpList_neq_fit (.tmp 118) (.tmp 119) rfl _ _ _ rfl rfl rfl ?_))
                  refine Calls.mono QS.out ?_
                  rintro e2 w7 ⟨rfl, hb7⟩
                  have H9 : Hid (∃ (p : Nat → Ent) (sz ia ib : Nat) (b : BV) (l : List Nat), HAg W (k + 3) p sz ia ib PS BK b BF N P7 #[.pointer (some ⟨e2.H, 0, none⟩), .pointer (some ⟨e2.R, 0, none⟩)] l w7) := by
                    have e6 := HE6.out
                    rw [HEO.out] at e6
                    have c6 := HC6.out
                    rw [HEO.out] at c6
                    obtain ⟨p', h'⟩ := H3.out.1.putL jo HEI.out (e6.1.below hb7) rfl rfl rfl e6.2 (c6.trans (Ch.ofBelow (S := fun _ => False) hb7) (fun _ _ q => q.elim)) HST.out.2 (HB6.out.ch (Ch.ofBelow (S := fun _ => False) hb7) id) (layL_len _ _ _ _)
                    exact ⟨_, _, _, _, _, _, h'⟩
                  clear hb7 QS HE6 HC6 HB6 hfF hfG H3
                  go_wp2
                  go_roundw
                  case rel => exact ⟨k + 1, by omega, by go_num, H9⟩
                  case measure => simp [intOf]; omega
          · have n1 : (kd != 1) = true := by rw [bne_iff_ne]; exact k1
            clear k1
            by_cases k2 : 2 ≤ kd
            · by_cases k4 : kd ≤ 4
              · as_aux_lemma =>
                  have QA : Hid (Calls Try.prog 23 #[.agg #[.pointer (some ⟨eo.H, 0, none⟩), .pointer (some ⟨eo.R, 0, none⟩)], .int .i64 kd, .pointer (some ⟨BK, 0, none⟩)] w2 fun r w' => r = .returned (.bool true) ∧ BkE w2 BK b w') := asked_any w2 eo (by rw [HEO.out]; exact H2.out.pl.ok _ HEI.out) kd BK b H2.out.pl.bk H2.out.pl.mb H2.out.pl.mg (by have := H2.out.pl.le; omega) (by have := H2.out.pl.lg; omega)
                  go_wp2_with (first | (refine wpList_load_Pr (.tmp 13) rfl Q1 _ rfl rfl hQ rfl ?_))
                  refine Calls.mono QA.out ?_
                  rintro e8 w6 ⟨rfl, hm⟩
                  obtain ⟨b', h6⟩ := H2.out.ask hm
                  have H9 : Hid (∃ (p : Nat → Ent) (sz ia ib : Nat) (b : BV) (l : List Nat), HAg W (k + 3) p sz ia ib PS BK b BF N P7 #[.pointer (some ⟨e2.H, 0, none⟩), .pointer (some ⟨e2.R, 0, none⟩)] l w6) := ⟨_, _, _, _, _, _, h6⟩
                  clear hm h6 QA H2 hQ s0 s2 s3 s4
                  go_wp2
                  go_roundw
                  case rel => exact ⟨k + 1, by omega, by go_num, H9⟩
                  case measure => simp [intOf]; omega
              · have k5 : ¬ kd ≤ 4 := k4
                clear k4
                as_aux_lemma =>
                  have H9 : Hid (∃ (p : Nat → Ent) (sz ia ib : Nat) (b : BV) (l : List Nat), HAg W (k + 3) p sz ia ib PS BK b BF N P7 #[.pointer (some ⟨e2.H, 0, none⟩), .pointer (some ⟨e2.R, 0, none⟩)] l w2) := ⟨_, _, _, _, _, _, H2.out.next⟩
                  clear H2
                  go_wp2
                  go_roundw
                  case rel => exact ⟨k + 1, by omega, by go_num, H9⟩
                  case measure => simp [intOf]; omega
            · as_aux_lemma =>
                have H9 : Hid (∃ (p : Nat → Ent) (sz ia ib : Nat) (b : BV) (l : List Nat), HAg W (k + 3) p sz ia ib PS BK b BF N P7 #[.pointer (some ⟨e2.H, 0, none⟩), .pointer (some ⟨e2.R, 0, none⟩)] l w2) := ⟨_, _, _, _, _, _, H2.out.next⟩
                clear H2
                go_wp2
                go_roundw
                case rel => exact ⟨k + 1, by omega, by go_num, H9⟩
                case measure => simp [intOf]; omega
end Go.Proofs.Ytfahfbpobmpccaa
