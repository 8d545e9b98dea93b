/-
  Layer 4: reader.six.
-/
import Derived.Test.YtfeabifjnihooaaDoorAdX7
namespace Go.Proofs.YtfeabifjnihooaaDoor
open Go.RowKit Go.Maps

/-- nothing read yet -/
def sxZ : SX := ⟨[], -1, 0, 0, 0⟩
theorem gsC_zero : gsC sxZ = #[.int .u8 0, .int .u8 0, .int .u8 0, .int .u8 0, .int .u8 0, .int .u8 0, .int .u8 0, .int .u8 0, .int .u8 0, .int .u8 0, .int .u8 0, .int .u8 0, .int .u8 0, .int .u8 0, .int .u8 0, .int .u8 0, .int .i64 0, .bool false, .int .i64 0] := rfl
theorem gsC_set0 : (gsC sxZ).setIfInBounds 17 (.bool false) = gsC sxZ := rfl
theorem gsC_set1 : (gsC { sxZ with p := 2 }).setIfInBounds 17 (.bool true) = gsC ⟨[], 0, 2, 0, 0⟩ := rfl
/-- what six leaves -/
def SixR (w : World) (R : Nat) (s : ByteArray) (r : Ending) (w' : World) : Prop := (match sxR (sxL s) s.size with
  | .inr e => r = .returned (.tuple #[.agg (arCells (fun _ => 0)), .int .i64 (e.1 : Nat)]) ∧ RdAt w' R s e.2
  | .inl x => r = .returned (.tuple #[.agg (arCells x), .int .i64 0])) ∧ Ch (fun k => k = R) w w'
theorem SixR.no {w : World} {R : Nat} {s : ByteArray} {r : Ending} {w' : World} {e p : Nat} (h : sxR (sxL s) s.size = .inr (e, p)) (hr : r = .returned (.tuple #[.agg (arCells (fun _ => 0)), .int .i64 (e : Nat)])) (hw : RdAt w' R s p) (c : Ch (fun k => k = R) w w') : SixR w R s r w' := by unfold SixR; rw [h]; exact ⟨⟨hr, hw⟩, c⟩
theorem SixR.yes {w : World} {R : Nat} {s : ByteArray} {r : Ending} {w' : World} {x : Nat → Nat} (h : sxR (sxL s) s.size = .inl x) (hr : r = .returned (.tuple #[.agg (arCells x), .int .i64 0])) (c : Ch (fun k => k = R) w w') : SixR w R s r w' := by unfold SixR; rw [h]; exact ⟨hr, c⟩
/-- what holds at a round's head -/
structure SxI (s : ByteArray) (X : SX) (d : Bool) (f : Nat) : Prop where
  ok : SxOk s X
  gp : SxGp X
  er : X.er = 0
  sl : slp s f (X, d) = sxL s
  m : mZ s (X, d) ≤ f
  hd : d = false → SxHd X
  n : d = true → X.gap < 0 → 8 ≤ X.g.length
theorem sxI_start {s : ByteArray} {X : SX} {d : Bool} (h : sx0 s = (X, d)) : SxI s X d (s.size + 1) := by
  have h1 := sx0_ok s
  have h2 := sx0_gp s
  have h3 := sx0_hd s
  have h4 := sx0_m s
  rw [h] at h1 h2 h3 h4
  refine ⟨h1, h2, ?_, by unfold sxL; rw [h], h4, fun _ => h3, fun hd hg => ?_⟩
  · unfold sx0 at h
    split at h <;> (injection h with e1 e2; rw [← e1])
  · unfold sx0 at h
    split at h
    · injection h with e1 e2
      rw [← e1] at hg
      exact absurd hg (by decide)
    · injection h with e1 e2
      rw [hd] at e2
      cases e2
theorem SxI.next {s : ByteArray} {X : SX} {f : Nat} (h : SxI s X false f) (h1 : (grp s X).1.er = 0) {Y : SX} {m : Bool} (hO : btO s (grp s X).1 = (Y, m, 0)) : SxI s Y (!m) (f - 1) ∧ (m = true → s.size + 1 - Y.p < s.size + 1 - X.p) := by
  obtain ⟨k1, k2, k3⟩ := round_go h.er h1 (by rw [hO])
  rw [hO] at k1 k2 k3
  dsimp only at k1 k2 k3
  have r1 := rnd_ok' h.ok
  have r2 := rnd_gp h.ok h.gp
  have r3 := rnd_less' h.ok
  have r4 := h.sl
  have r5 : mZ s (X, false) = s.size + 1 - X.p := by unfold mZ; rw [if_pos (by simp [h.er])]
  have r6 := h.m
  rw [slp_round h.er h.ok.p h.m] at r4
  rw [k1] at r1 r2 r3 r4
  refine ⟨⟨r1, r2, k2, r4, by omega, fun hd => ?_, fun hd => ?_⟩, fun hm => ?_⟩
  · have := rnd_hd h.ok (by rw [k1]; exact hd) (by rw [k1]; exact k2)
    rw [k1] at this
    exact this
  · exact k3 (by simpa using hd)
  · have k2' : Y.er = 0 := k2
    have e : mZ s (Y, !m) = s.size + 1 - Y.p := by unfold mZ; rw [if_pos (by simp [hm, k2'])]
    have r3' : mZ s (Y, !m) < s.size + 1 - X.p := r3
    omega
theorem SxI.done {s : ByteArray} {X : SX} {f : Nat} (h : SxI s X true f) : sxR (sxL s) s.size = .inl (fil X X.g.length) := by
  rw [← h.sl, slp_end (by rfl)]
  show sxR X s.size = _
  unfold sxR
  rw [if_neg (by simp [h.er]), if_neg (fun k => by have := h.n rfl k.1; omega)]
set_option maxHeartbeats 4000000 in
set_option maxRecDepth 100000 in
theorem six_any (R : Nat) (s : ByteArray) (w : World) (h : RdAt w R s 0) (hs : s.size ≤ 1000) : Calls Tryd.prog 24 #[.pointer (some ⟨R, 0, none⟩)] w fun r w' => SixR w R s r w' := by
  have HP : Hid (s.size ≤ 1000) := hs
  have HRL : Hid (R < w.heap.size) := h.lt
  obtain ⟨t, ht⟩ : ∃ t, twB s 0 = t := ⟨_, rfl⟩
  have HT : Hid (twB s 0 = t) := ht
  clear hs ht
  obtain ⟨V, hV⟩ : ∃ W_, W_ = w.alloc (.cells (arCells (fun _ => 0)) 22) := ⟨_, rfl⟩
  obtain ⟨B, hB⟩ : ∃ B_, B_ = w.heap.size := ⟨_, rfl⟩
  have HAX : Hid (ArAt V B (arCells (fun _ => 0)) ∧ Below w.heap.size w V ∧ V.heap.size = B + 1) := by rw [hV, hB]; exact ⟨heap_alloc_new _ _, (Below.refl _ _).alloc (Nat.le_refl _) _, by rw [World.size_alloc]⟩
  have HWX : Hid (w.alloc (.cells #[.int .u8 0, .int .u8 0, .int .u8 0, .int .u8 0, .int .u8 0, .int .u8 0, .int .u8 0, .int .u8 0, .int .u8 0, .int .u8 0, .int .u8 0, .int .u8 0, .int .u8 0, .int .u8 0, .int .u8 0, .int .u8 0] 22) = V) := hV.symm
  have HOX : Hid (w.heap.size = B) := hB.symm
  clear hV hB
  obtain ⟨W, hW⟩ : ∃ W_, W_ = V.alloc (.cells (gsC sxZ) 78) := ⟨_, rfl⟩
  obtain ⟨G, hG⟩ : ∃ G_, G_ = V.heap.size := ⟨_, rfl⟩
  have HGW : Hid (GsAt W G sxZ ∧ Below V.heap.size V W ∧ W.heap.size = G + 1) := by rw [hW, hG]; exact ⟨heap_alloc_new _ _, (Below.refl _ _).alloc (Nat.le_refl _) _, by rw [World.size_alloc]⟩
  have HWG : Hid (V.alloc (.cells #[.int .u8 0, .int .u8 0, .int .u8 0, .int .u8 0, .int .u8 0, .int .u8 0, .int .u8 0, .int .u8 0, .int .u8 0, .int .u8 0, .int .u8 0, .int .u8 0, .int .u8 0, .int .u8 0, .int .u8 0, .int .u8 0, .int .i64 0, .bool false, .int .i64 0] 78) = W) := by rw [← gsC_zero]; exact hW.symm
  have HOG : Hid (V.heap.size = G) := hG.symm
  have HNE : Hid (G ≠ R ∧ w.heap.size ≤ G ∧ B ≠ R ∧ B < G ∧ w.heap.size ≤ B ∧ G < W.heap.size ∧ R < w.heap.size) := by
    have h1 := HRL.out
    have h2 := HAX.out.2.2
    have h3 := HOX.out
    have h4 := HGW.out.2.2
    exact ⟨by omega, by omega, by omega, by omega, by omega, by omega, h1⟩
  have HBG : Hid (B + 1 = G) := by have h2 := HAX.out.2.2; have h3 := HOG.out; show _ = _; omega
  have HCW : Hid (Ch (fun k => k = R) w W) := (Ch.ofBelow (S := fun k => k = R) HAX.out.2.1).trans (Ch.ofBelow (S := fun _ => False) HGW.out.2.1) (fun _ _ h => h.elim)
  have H0 : Hid (RG W W R G s sxZ) := RG.start ((h.below HAX.out.2.1).below HGW.out.2.1) HGW.out.1
  have HBW : Hid (ArAt W B (arCells (fun _ => 0))) := HAX.out.1.below HGW.out.2.1
  clear h hW hG
  go_enter Tryd.func24, Tryd.ntmps24
  go_upto_region 2 with fail
  (try rw [HOX.out])
  (try rw [HWX.out])
  (try rw [HOG.out])
  (try rw [HWG.out])
  rw [HBG.out]
  go_wp2_with fail
  refine (skip_any R s ⟨#[58, 58]⟩ 0 W H0.out.1 (Nat.zero_le _) HP.out (by decide)).mono ?_
  rintro e w1 ⟨rfl, hrd, hch⟩
  rw [stB_two, HT.out] at hrd ⊢
  have H1 : Hid (RG W w1 R G s { sxZ with p := if t then 2 else 0 }) := H0.out.rd HNE.out.1 ⟨by cases t <;> exact hrd, hch⟩
  clear hrd hch
  have k17 : w1.cell? ⟨G, 17, none⟩ = some (.bool false) := H1.out.2.1.b
  have f17 : w1.frozen? ⟨G, 17, none⟩ = false := H1.out.2.1.fz 17
  obtain ⟨w2, hw2⟩ : ∃ w2, w2 = w1.setCell ⟨G, 17, none⟩ (.bool t) := ⟨_, rfl⟩
  have HW2 : Hid (w1.setCell ⟨G, 17, none⟩ (.bool t) = w2) := hw2.symm
  have HC2 : Hid (Ch (fun k => k = G) w1 w2) := by show Ch _ _ _; rw [hw2]; exact (Ch.refl (fun k => k = G) w1).set ⟨G, 17, none⟩ _ rfl
  cases t with
  | true =>
    have H2 : Hid (RG W w2 R G s ⟨[], 0, 2, 0, 0⟩) := by
      refine ⟨H1.out.1.ch HC2.out (fun e => HNE.out.1 e.symm), ?_, H1.out.2.2.trans HC2.out (fun _ _ h => .inr h)⟩
      have h := heap_setCell_same w1 G 17 _ _ (.bool true) H1.out.2.1
      rw [← hw2] at h
      exact h
    have k2 : w2.cell? ⟨G, 17, none⟩ = some (.bool true) := H2.out.2.1.b
    clear hw2
    go_upto_region 3 with fail
    rw [HW2.out]
    go_wp2_with fail
    refine (ended_any R s 2 w2 H2.out.1).mono ?_
    rintro e w3 ⟨rfl, hn⟩
    have H3 : Hid (RG W w3 R G s ⟨[], 0, 2, 0, 0⟩) := H2.out.no hn
    obtain ⟨d0, hd0⟩ : ∃ d0, (2 == s.size) = d0 := ⟨_, rfl⟩
    have HS0 : Hid (sx0 s = (⟨[], 0, 2, 0, 0⟩, d0)) := by
      show _ = _
      unfold sx0
      rw [HT.out, if_pos rfl, ← hd0, Bool.eq_iff_iff.2 (show (s.size == 2) = true ↔ (2 == s.size) = true by simp; omega)]
    rw [hd0]
    clear hn k17 f17 k2 hd0
    go_wp2_with fail
    go_loopw [5] (fun mv wr => ∃ (X : SX) (d : Bool) (f : Nat), mv = .bool (!d) ∧ Hid (SxI s X d f) ∧ Hid (RG W wr R G s X)) (fun mv wr => sxN s R mv wr)
    case atStart => exact ⟨⟨[], 0, 2, 0, 0⟩, d0, s.size + 1, rfl, sxI_start HS0.out, H3.out⟩
    case round =>
      obtain ⟨X, d, f, rfl, HI, HR⟩ := hrel
      have HB_wr : Hid (ArAt wr B (arCells (fun _ => 0))) := (HR.out.2.2.block B (by have h1 := HNE.out; omega) (by have h1 := HNE.out; omega)).trans HBW.out
      cases d with
      | true =>
        have HF : Hid (sxR (sxL s) s.size = .inl (fil X X.g.length)) := HI.out.done
        go_wp2_with fail
        refine (address_any G X wr HR.out.2.1 HI.out.gp (fun h => by have h1 := HI.out.n rfl h; have h2 := HI.out.ok.l; omega)).mono ?_
        rintro e w5 ⟨rfl, hb⟩
        obtain ⟨x5, hx5⟩ : ∃ x5, fil X X.g.length = x5 := ⟨_, rfl⟩
        have HX5 : Hid (fil X X.g.length = x5) := hx5
        rw [hx5]
        have HB5 : Hid (ArAt w5 B (arCells (fun _ => 0)) ∧ Ch (fun k => k = R ∨ k = G ∨ k = B) W w5) := ⟨HB_wr.out.below hb, (HR.out.2.2.mono (T := fun k => k = R ∨ k = G ∨ k = B) (fun _ _ h => by rcases h with h | h <;> simp [h])).trans (Ch.ofBelow (S := fun _ => False) hb) (fun _ _ h => h.elim)⟩
        clear hb hx5
        go_wp2_with (refine wpList_store_ar (.tmp 2) (.tmp 34) rfl rfl B (fun _ => 0) x5 rfl rfl HB5.out.1 rfl ?_)
        intro wE hRE kE
        have HE : Hid (ArAt wE B (arCells x5) ∧ Ch (fun k => k = R) w wE) := ⟨hRE, HCW.out.trans (HB5.out.2.trans kE (fun _ _ h => .inr (.inr h))) (fun x hx hT => by have h1 := HNE.out; rcases hT with h | h | h <;> omega)⟩
        clear hRE kE
        go_wp2
        (try simp only [Exit.inBlock, Exit.then])
        refine bodyPost_ret (results_ar_tmp rfl _ _ B x5 rfl HE.out.1) rfl ?_
        exact SixR.yes (HF.out.trans (by rw [HX5.out])) rfl HE.out.2
      | false =>
        go_wp2_with fail
        refine (group_any R G s X wr HR.out.1 HR.out.2.1 HNE.out.1 HP.out HI.out.ok (HI.out.hd rfl) HI.out.er).mono ?_
        rintro e w3 ⟨rfl, hok, her, hch⟩
        obtain ⟨er, hE⟩ : ∃ er, (grp s X).1.er = er := ⟨_, rfl⟩
        have HER : Hid ((grp s X).1.er = er) := hE
        have HC3 : Hid (Ch (fun k => k = R ∨ k = G) W w3) := HR.out.2.2.trans hch (fun _ _ h => h)
        have HB_w3 : Hid (ArAt w3 B (arCells (fun _ => 0))) := (HC3.out.block B (by have h1 := HNE.out; omega) (by have h1 := HNE.out; omega)).trans HBW.out
        by_cases h0 : er = 0
        · have HY : Hid (RG wr w3 R G s (grp s X).1) := hok (hE.trans h0)
          rw [hE, h0]
          have HE0 : Hid ((grp s X).1.er = 0) := hE.trans h0
          clear hok her hch hE h0
          go_wp2_with fail
          refine (between_any R G s (grp s X).1 w3 HY.out.1 HY.out.2.1 HNE.out.1 (grp_ok' HI.out.ok).p HP.out (grp_ok' HI.out.ok).l).mono ?_
          rintro e w4 ⟨rfl, hrg⟩
          obtain ⟨Y, m, c, hO⟩ : ∃ Y m c, btO s (grp s X).1 = (Y, m, c) := ⟨_, _, _, rfl⟩
          rw [hO] at hrg ⊢
          have HO : Hid (btO s (grp s X).1 = (Y, m, c)) := hO
          have H4 : Hid (RG wr w4 R G s Y) := HY.out.to hrg
          have HC4 : Hid (Ch (fun k => k = R ∨ k = G) W w4) := HR.out.2.2.trans H4.out.2.2 (fun _ _ h => h)
          have HB_w4 : Hid (ArAt w4 B (arCells (fun _ => 0))) := (HC4.out.block B (by have h1 := HNE.out; omega) (by have h1 := HNE.out; omega)).trans HBW.out
          show _
          simp only [btV]
          clear hrg hO
          by_cases hc : c = 0
          · subst hc
            have HN := HI.out.next HE0.out HO.out
            have HNX : Hid (SxI s Y (!m) (f - 1) ∧ (m = true → s.size + 1 - Y.p < s.size + 1 - X.p)) := HN
            clear HN
            go_wp2
            go_roundw
            case rel => exact ⟨Y, !m, f - 1, by simp, HNX.out.1, ⟨H4.out.1, H4.out.2.1, HC4.out⟩⟩
            case measure =>
              have h1 := sxN_go HR.out.1
              have h2 := HI.out.ok.p
              cases m with
              | true =>
                have h3 := sxN_go H4.out.1
                have h4 := HNX.out.2 rfl
                show sxN s R (.bool true) w4 < sxN s R (.bool true) wr
                omega
              | false =>
                show 0 < sxN s R (.bool true) wr
                omega
          · have HF : Hid (sxR (sxL s) s.size = .inr (c, Y.p)) := by
              have h := round_no HI.out.er HE0.out (by rw [HO.out]; exact hc) (f - 1)
              rw [← slp_round HI.out.er HI.out.ok.p HI.out.m, HI.out.sl, HO.out] at h
              exact h
            have e1 : (((c : Nat) : Int) != 0) = true := by simp [hc]
            clear hc
            go_wp2_with (refine wpList_store_ar (.tmp 2) (.tmp 32) rfl rfl B (fun _ => 0) (fun _ => 0) rfl rfl HB_w4.out rfl ?_)
            intro wE hRE kE
            have HE : Hid (ArAt wE B (arCells (fun _ => 0)) ∧ RdAt wE R s (Y.p) ∧ Ch (fun k => k = R) w wE) := ⟨hRE, (H4.out.1).ch kE (by have h' := HNE.out.2.2; omega), HCW.out.trans (((HC4.out).mono (T := fun k => k = R ∨ k = G ∨ k = B) (fun _ _ h => by rcases h with h | h <;> simp [h])).trans kE (fun _ _ h => .inr (.inr h))) (fun x hx hT => by have h1 := HNE.out; rcases hT with h | h | h <;> omega)⟩
            clear hRE kE
            go_wp2
            (try simp only [Exit.inBlock, Exit.then])
            refine bodyPost_ret (results_ar_tmp rfl _ _ B (fun _ => 0) rfl HE.out.1) rfl ?_
            exact SixR.no HF.out rfl HE.out.2.1 HE.out.2.2
        · have HF : Hid (sxR (sxL s) s.size = .inr (er, (grp s X).1.pl)) := by
            have h := round_er (s := s) (X := X) (by rw [hE]; exact h0) (f - 1)
            rw [← slp_round HI.out.er HI.out.ok.p HI.out.m, HI.out.sl, hE] at h
            exact h
          have HRD : Hid (RdAt w3 R s (grp s X).1.pl) := her (by rw [hE]; exact h0)
          have e1 : (((er : Nat) : Int) != 0) = true := by simp [h0]
          rw [hE]
          clear hok her hch hE h0
          go_wp2_with (refine wpList_store_ar (.tmp 2) (.tmp 23) rfl rfl B (fun _ => 0) (fun _ => 0) rfl rfl HB_w3.out rfl ?_)
          intro wE hRE kE
          have HE : Hid (ArAt wE B (arCells (fun _ => 0)) ∧ RdAt wE R s ((grp s X).1.pl) ∧ Ch (fun k => k = R) w wE) := ⟨hRE, (HRD.out).ch kE (by have h' := HNE.out.2.2; omega), HCW.out.trans (((HC3.out).mono (T := fun k => k = R ∨ k = G ∨ k = B) (fun _ _ h => by rcases h with h | h <;> simp [h])).trans kE (fun _ _ h => .inr (.inr h))) (fun x hx hT => by have h1 := HNE.out; rcases hT with h | h | h <;> omega)⟩
          clear hRE kE
          go_wp2
          (try simp only [Exit.inBlock, Exit.then])
          refine bodyPost_ret (results_ar_tmp rfl _ _ B (fun _ => 0) rfl HE.out.1) rfl ?_
          exact SixR.no HF.out rfl HE.out.2.1 HE.out.2.2
  | false =>
    have H3 : Hid (RG W w2 R G s sxZ) := by
      refine ⟨H1.out.1.ch HC2.out (fun e => HNE.out.1 e.symm), ?_, H1.out.2.2.trans HC2.out (fun _ _ h => .inr h)⟩
      have h := heap_setCell_same w1 G 17 _ _ (.bool false) H1.out.2.1
      rw [← hw2] at h
      exact h
    have k2 : w2.cell? ⟨G, 17, none⟩ = some (.bool false) := H3.out.2.1.b
    have HS0 : Hid (sx0 s = (sxZ, false)) := by
      show _ = _
      unfold sx0
      rw [HT.out, if_neg (by decide)]
      rfl
    clear hw2
    go_upto_region 3 with fail
    rw [HW2.out]
    go_wp2_with fail
    clear k17 f17 k2
    go_loopw [5] (fun mv wr => ∃ (X : SX) (d : Bool) (f : Nat), mv = .bool (!d) ∧ Hid (SxI s X d f) ∧ Hid (RG W wr R G s X)) (fun mv wr => sxN s R mv wr)
    case atStart => exact ⟨sxZ, false, s.size + 1, rfl, sxI_start HS0.out, H3.out⟩
    case round =>
      obtain ⟨X, d, f, rfl, HI, HR⟩ := hrel
      have HB_wr : Hid (ArAt wr B (arCells (fun _ => 0))) := (HR.out.2.2.block B (by have h1 := HNE.out; omega) (by have h1 := HNE.out; omega)).trans HBW.out
      cases d with
      | true =>
        have HF : Hid (sxR (sxL s) s.size = .inl (fil X X.g.length)) := HI.out.done
        go_wp2_with fail
        refine (address_any G X wr HR.out.2.1 HI.out.gp (fun h => by have h1 := HI.out.n rfl h; have h2 := HI.out.ok.l; omega)).mono ?_
        rintro e w5 ⟨rfl, hb⟩
        obtain ⟨x5, hx5⟩ : ∃ x5, fil X X.g.length = x5 := ⟨_, rfl⟩
        have HX5 : Hid (fil X X.g.length = x5) := hx5
        rw [hx5]
        have HB5 : Hid (ArAt w5 B (arCells (fun _ => 0)) ∧ Ch (fun k => k = R ∨ k = G ∨ k = B) W w5) := ⟨HB_wr.out.below hb, (HR.out.2.2.mono (T := fun k => k = R ∨ k = G ∨ k = B) (fun _ _ h => by rcases h with h | h <;> simp [h])).trans (Ch.ofBelow (S := fun _ => False) hb) (fun _ _ h => h.elim)⟩
        clear hb hx5
        go_wp2_with (refine wpList_store_ar (.tmp 2) (.tmp 34) rfl rfl B (fun _ => 0) x5 rfl rfl HB5.out.1 rfl ?_)
        intro wE hRE kE
        have HE : Hid (ArAt wE B (arCells x5) ∧ Ch (fun k => k = R) w wE) := ⟨hRE, HCW.out.trans (HB5.out.2.trans kE (fun _ _ h => .inr (.inr h))) (fun x hx hT => by have h1 := HNE.out; rcases hT with h | h | h <;> omega)⟩
        clear hRE kE
        go_wp2
        (try simp only [Exit.inBlock, Exit.then])
        refine bodyPost_ret (results_ar_tmp rfl _ _ B x5 rfl HE.out.1) rfl ?_
        exact SixR.yes (HF.out.trans (by rw [HX5.out])) rfl HE.out.2
      | false =>
        go_wp2_with fail
        refine (group_any R G s X wr HR.out.1 HR.out.2.1 HNE.out.1 HP.out HI.out.ok (HI.out.hd rfl) HI.out.er).mono ?_
        rintro e w3 ⟨rfl, hok, her, hch⟩
        obtain ⟨er, hE⟩ : ∃ er, (grp s X).1.er = er := ⟨_, rfl⟩
        have HER : Hid ((grp s X).1.er = er) := hE
        have HC3 : Hid (Ch (fun k => k = R ∨ k = G) W w3) := HR.out.2.2.trans hch (fun _ _ h => h)
        have HB_w3 : Hid (ArAt w3 B (arCells (fun _ => 0))) := (HC3.out.block B (by have h1 := HNE.out; omega) (by have h1 := HNE.out; omega)).trans HBW.out
        by_cases h0 : er = 0
        · have HY : Hid (RG wr w3 R G s (grp s X).1) := hok (hE.trans h0)
          rw [hE, h0]
          have HE0 : Hid ((grp s X).1.er = 0) := hE.trans h0
          clear hok her hch hE h0
          go_wp2_with fail
          refine (between_any R G s (grp s X).1 w3 HY.out.1 HY.out.2.1 HNE.out.1 (grp_ok' HI.out.ok).p HP.out (grp_ok' HI.out.ok).l).mono ?_
          rintro e w4 ⟨rfl, hrg⟩
          obtain ⟨Y, m, c, hO⟩ : ∃ Y m c, btO s (grp s X).1 = (Y, m, c) := ⟨_, _, _, rfl⟩
          rw [hO] at hrg ⊢
          have HO : Hid (btO s (grp s X).1 = (Y, m, c)) := hO
          have H4 : Hid (RG wr w4 R G s Y) := HY.out.to hrg
          have HC4 : Hid (Ch (fun k => k = R ∨ k = G) W w4) := HR.out.2.2.trans H4.out.2.2 (fun _ _ h => h)
          have HB_w4 : Hid (ArAt w4 B (arCells (fun _ => 0))) := (HC4.out.block B (by have h1 := HNE.out; omega) (by have h1 := HNE.out; omega)).trans HBW.out
          show _
          simp only [btV]
          clear hrg hO
          by_cases hc : c = 0
          · subst hc
            have HN := HI.out.next HE0.out HO.out
            have HNX : Hid (SxI s Y (!m) (f - 1) ∧ (m = true → s.size + 1 - Y.p < s.size + 1 - X.p)) := HN
            clear HN
            go_wp2
            go_roundw
            case rel => exact ⟨Y, !m, f - 1, by simp, HNX.out.1, ⟨H4.out.1, H4.out.2.1, HC4.out⟩⟩
            case measure =>
              have h1 := sxN_go HR.out.1
              have h2 := HI.out.ok.p
              cases m with
              | true =>
                have h3 := sxN_go H4.out.1
                have h4 := HNX.out.2 rfl
                show sxN s R (.bool true) w4 < sxN s R (.bool true) wr
                omega
              | false =>
                show 0 < sxN s R (.bool true) wr
                omega
          · have HF : Hid (sxR (sxL s) s.size = .inr (c, Y.p)) := by
              have h := round_no HI.out.er HE0.out (by rw [HO.out]; exact hc) (f - 1)
              rw [← slp_round HI.out.er HI.out.ok.p HI.out.m, HI.out.sl, HO.out] at h
              exact h
            have e1 : (((c : Nat) : Int) != 0) = true := by simp [hc]
            clear hc
            go_wp2_with (refine wpList_store_ar (.tmp 2) (.tmp 32) rfl rfl B (fun _ => 0) (fun _ => 0) rfl rfl HB_w4.out rfl ?_)
            intro wE hRE kE
            have HE : Hid (ArAt wE B (arCells (fun _ => 0)) ∧ RdAt wE R s (Y.p) ∧ Ch (fun k => k = R) w wE) := ⟨hRE, (H4.out.1).ch kE (by have h' := HNE.out.2.2; omega), HCW.out.trans (((HC4.out).mono (T := fun k => k = R ∨ k = G ∨ k = B) (fun _ _ h => by rcases h with h | h <;> simp [h])).trans kE (fun _ _ h => .inr (.inr h))) (fun x hx hT => by have h1 := HNE.out; rcases hT with h | h | h <;> omega)⟩
            clear hRE kE
            go_wp2
            (try simp only [Exit.inBlock, Exit.then])
            refine bodyPost_ret (results_ar_tmp rfl _ _ B (fun _ => 0) rfl HE.out.1) rfl ?_
            exact SixR.no HF.out rfl HE.out.2.1 HE.out.2.2
        · have HF : Hid (sxR (sxL s) s.size = .inr (er, (grp s X).1.pl)) := by
            have h := round_er (s := s) (X := X) (by rw [hE]; exact h0) (f - 1)
            rw [← slp_round HI.out.er HI.out.ok.p HI.out.m, HI.out.sl, hE] at h
            exact h
          have HRD : Hid (RdAt w3 R s (grp s X).1.pl) := her (by rw [hE]; exact h0)
          have e1 : (((er : Nat) : Int) != 0) = true := by simp [h0]
          rw [hE]
          clear hok her hch hE h0
          go_wp2_with (refine wpList_store_ar (.tmp 2) (.tmp 23) rfl rfl B (fun _ => 0) (fun _ => 0) rfl rfl HB_w3.out rfl ?_)
          intro wE hRE kE
          have HE : Hid (ArAt wE B (arCells (fun _ => 0)) ∧ RdAt wE R s ((grp s X).1.pl) ∧ Ch (fun k => k = R) w wE) := ⟨hRE, (HRD.out).ch kE (by have h' := HNE.out.2.2; omega), HCW.out.trans (((HC3.out).mono (T := fun k => k = R ∨ k = G ∨ k = B) (fun _ _ h => by rcases h with h | h <;> simp [h])).trans kE (fun _ _ h => .inr (.inr h))) (fun x hx hT => by have h1 := HNE.out; rcases hT with h | h | h <;> omega)⟩
          clear hRE kE
          go_wp2
          (try simp only [Exit.inBlock, Exit.then])
          refine bodyPost_ret (results_ar_tmp rfl _ _ B (fun _ => 0) rfl HE.out.1) rfl ?_
          exact SixR.no HF.out rfl HE.out.2.1 HE.out.2.2
end Go.Proofs.YtfeabifjnihooaaDoor
