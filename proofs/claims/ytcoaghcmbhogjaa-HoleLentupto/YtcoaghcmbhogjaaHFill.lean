/-
  Package hole: fill.
-/
import Derived.Test.YtcoaghcmbhogjaaHFill0
import Derived.Test.YtcoaghcmbhogjaaHFillP
import Derived.WalkMore
namespace Go.Proofs.Ytcoaghcmbhogjaa
open Go.RowKit Go.Maps
namespace H11

theorem HAt.putG {w : World} {H : Nat} {s : HS} {v : HV} (h : HAt w H s v) (gv : Value) (gp : List (Nat × Nat)) (ho : w.ownsRow 0 45 2 gv gp.length (gC gp)) (hn : ∀ x, HB H v x → gv.ownBlock ≠ some x) : HAt (w.setCell ⟨H, 3, none⟩ gv) H { s with gp := gp } { v with gv := gv } := by
  have k2 : Ch (fun q => q = H) w (w.setCell ⟨H, 3, none⟩ gv) := (Ch.refl _ w).set _ _ rfl
  have cH : ∀ {j : Nat} {u : Value}, w.cell? ⟨H, j, none⟩ = some u → j ≠ 3 → (w.setCell ⟨H, 3, none⟩ gv).cell? ⟨H, j, none⟩ = some u := by
    intro j u hu hj
    rw [cell_ne _ _ _ _ _ hj]
    exact hu
  refine ⟨cH h.c0 (by omega), cH h.c1 (by omega), cH h.c2 (by omega), World.cell?_setCell_same _ _ _ h.c3, cH h.c4 (by omega), ?_, ?_, ?_, ?_, h.hs, h.nHM, h.nbH, h.nbM, hn H (.inl rfl), hn v.M (.inr (.inl rfl)), fun x hx => hn x (.inr (.inr (.inl hx)))⟩
  · intro j
    rw [World.frozen?_setCell]
    exact h.fz j
  · exact k2.owns h.bo (fun g hg e => h.nbH (by rw [← e]; exact hg))
  · exact k2.owns ho (fun g hg e => hn H (.inl rfl) (by rw [← e]; exact hg))
  · exact map_ch h.mo k2 (fun e => h.nHM e.symm)
/-- the end of fill -/
theorem FC.fin {w : World} {H : Nat} {s : HS} {v : HV} {acc : List (Nat × Nat)} {b : List Nat} {left : Value} {wr : World} (h : FC w H s v acc b left wr) (h0 : HAt w H s v) {Sf : HS} (e : Sf = { s with bs := b, gp := acc }) : Moved w H v (wr.setCell ⟨H, 3, none⟩ left) Sf := by
  rw [e]
  refine ⟨{ v with gv := left }, h.hat.putG left acc (owns_mono h.own (Nat.zero_le _)) (fun x hx k => ?_), ?_, ?_⟩
  · have := h0.lt x hx
    have := (h.own.lt x k).1
    omega
  · rintro x (rfl | rfl | hx | hx)
    · exact .inl (.inl rfl)
    · exact .inl (.inr (.inl rfl))
    · exact .inl (.inr (.inr (.inl hx)))
    · exact .inr (h.own.lt x hx).1
  · exact (h.ch.mono (fun x _ e => .inr (.inr (.inl e)))).set _ _ (.inl rfl)

theorem two_new (w : World) (p q : Nat) : ∀ j u, (gC [(p, q)])[j]? = some u → (w.alloc (.cells #[.int .i64 (p : Int), .int .i64 (q : Int)] 45)).cell? ((⟨w.heap.size, 0, none⟩ : Addr).add j) = some u := by
  intro j u hj
  rw [Addr.add_lit, Nat.zero_add, World.cell?_alloc_at _ _ _ _ rfl]
  simpa [gC] using hj
theorem two_new' (w : World) (p q : Nat) : ∀ j u, (gC [(p, q)])[j]? = some u → (w.alloc (.cells #[.int .i64 (p : Int), .int .i64 (q : Int)] 45)).cell? ⟨w.heap.size, j, none⟩ = some u := by
  intro j u hj
  rw [World.cell?_alloc_at _ _ _ _ rfl]
  simpa [gC] using hj
theorem two0 (w : World) (u v : Value) : (w.alloc (.cells #[u, v] 45)).cell? ⟨w.heap.size, 0, none⟩ = some u := by
  rw [World.cell?_alloc_at _ _ _ _ rfl]; rfl
theorem two1 (w : World) (u v : Value) : (w.alloc (.cells #[u, v] 45)).cell? ⟨w.heap.size, 1, none⟩ = some v := by
  rw [World.cell?_alloc_at _ _ _ _ rfl]; rfl

set_option maxRecDepth 100000 in
set_option maxHeartbeats 6400000 in
theorem fill_any (w : World) (H : Nat) (s : HS) (v : HV) (h : HAt w H s v) (hi : Nat) (hr : Ris 0 s.gp hi) (hi5 : hi ≤ 65535) (o : Nat) (d : List Nat) (da : Option Addr) (c : Nat) (hd1 : 1 ≤ d.length) (hob : o + d.length ≤ s.bs.length) (hb5 : s.bs.length ≤ 65535)
    (hcn : d.length ≤ c) (hseg : Seg .u8 w da (toI d)) (hdn : ∀ x, da = some x → ¬ HB H v x.block) :
    Calls Try.prog 34 #[.pointer (some ⟨H, 0, none⟩), .int .i64 (o : Int), .slice da d.length c] w fun r w' => r = .returned (.int .i64 (fN o (o + d.length) s.gp : Nat)) ∧ Moved w H v w' { s with bs := fB o (o + d.length) d s.gp s.bs, gp := fG o (o + d.length) s.gp } := by
  obtain ⟨db, dof, rfl, hdc⟩ : ∃ db dof, da = some ⟨db, dof, none⟩ ∧ ∀ i, i < (toI d).length → w.cell? ⟨db, dof + i, none⟩ = some (.int .u8 ((toI d).getD i 0)) := by
    rcases hseg with k | k
    · have := congrArg List.length k; rw [toI_len] at this; simp only [List.length_nil] at this; omega
    · exact k
  obtain ⟨i0, hi0, hz0, hz1, hz2⟩ := info_parts Try.infoGap
  obtain ⟨ga, gc, hgv, g0, gs0, gle, gcl⟩ := h.gaps
  have c3 := h.c3
  rw [hgv] at c3
  obtain ⟨G, hG⟩ : ∃ G, G = s.gp.length := ⟨_, rfl⟩
  rw [← hG] at c3 g0
  have HG : Hid (G = s.gp.length) := hG
  have HGE : Hid (G ≤ gc) := by show G ≤ gc; rw [hG]; exact gle
  have HGV : Hid (v.gv = .slice ga G gc) := by show v.gv = _; rw [hgv, hG]
  have hG5 : G ≤ 65535 := by have := hr.len; omega
  have HC : Hid (∀ k, k < G → ∃ g, ga = some ⟨g, 0, none⟩ ∧ w.cell? ⟨g, k * 2, none⟩ = some (.int .i64 ((s.gp.getD k (0, 0)).1 : Int)) ∧ w.cell? ⟨g, k * 2 + 1, none⟩ = some (.int .i64 ((s.gp.getD k (0, 0)).2 : Int))) := by
    intro k hk
    cases ga with
    | none => have := g0 rfl; omega
    | some b =>
      obtain ⟨g, rfl, _⟩ := gs0 b rfl
      have ho := h.go
      rw [hgv] at ho
      obtain ⟨k1, k2⟩ := gC_cell ho k (by rw [← hG]; exact hk)
      exact ⟨g, rfl, k1, k2⟩
  have HGL : Hid (∀ g, ga = some ⟨g, 0, none⟩ → g < w.heap.size ∧ ¬ v.bv.ownBlock = some g) := by
    intro g hg
    obtain ⟨g', e1, e2⟩ := gs0 _ hg
    simp at e1
    subst e1
    exact ⟨h.lt g (.inr (.inr (.inr e2))), fun e => h.nbg g e e2⟩
  have HB1 : Hid (∀ k, k < G → (s.gp.getD k (0, 0)).1 ≤ (s.gp.getD k (0, 0)).2 ∧ (s.gp.getD k (0, 0)).2 ≤ 65535) := by
    intro k hk
    have := hr.at k (by rw [← hG]; exact hk)
    omega
  obtain ⟨n, hn⟩ : ∃ n, n = d.length := ⟨_, rfl⟩
  obtain ⟨e, he⟩ : ∃ e, e = o + n := ⟨_, rfl⟩
  rw [← hn] at hd1 hob hcn ⊢
  rw [← he] at hob ⊢
  have HH : Hid _ := h
  have HN : Hid (n = d.length) := hn
  have HE : Hid (e = o + n) := he
  have HRR : Hid (Ris 0 s.gp hi ∧ hi ≤ 65535) := ⟨hr, hi5⟩
  have HSG : Hid (∀ i, i < (toI d).length → w.cell? ⟨db, dof + i, none⟩ = some (.int .u8 ((toI d).getD i 0))) := hdc
  have HDN : Hid (¬ HB H v db) := hdn _ rfl
  have HOB : Hid (e ≤ s.bs.length ∧ s.bs.length ≤ 65535) := ⟨hob, hb5⟩
  have he5 : e ≤ 65535 := by omega
  have hon : (o : Int) + (n : Int) = (e : Int) := by omega
  have w1 : IntKind.i64.wrap ((o : Int) + (n : Int)) = (e : Int) := by rw [IntKind.wrap_i64]; omega
  have w2 : IntKind.i64.wrap ((G : Int) + 1) = ((G + 1 : Nat) : Int) := by rw [IntKind.wrap_i64]; omega
  have hoe : o < e := by omega
  have HOE : Hid (o < e) := hoe
  obtain ⟨Sf, hSf⟩ : ∃ Sf : HS, Sf = { s with bs := fB o e d s.gp s.bs, gp := fG o e s.gp } := ⟨_, rfl⟩
  obtain ⟨Nf, hNf⟩ : ∃ Nf, Nf = fN o e s.gp := ⟨_, rfl⟩
  rw [← hSf, ← hNf]
  have HSF : Hid (Sf = { s with bs := fB o e d s.gp s.bs, gp := fG o e s.gp }) := hSf
  have HNF : Hid (Nf = fN o e s.gp) := hNf
  clear hSf hNf hn he hseg hdn hdc hob hb5 hr hi5 hG hgv gcl gs0 g0 gle h
  go_enter Try.func34, Try.ntmps34
  go_wp2
  go_step3
  go_wp2_with (first | (at_make; refine wpList_make_own _ rfl _ _ 43 rfl w.heap.size 45 i0 _ 2 Try.underlying43 hi0 hz0 hz1 _ _ _ (G + 1) rfl rfl (by first | exact w2 | omega) (by rw [hz2]; omega) (by unfold maxLen; omega) (Nat.le_refl _) ?_))
  intro w0 ho0 hg0
  have hb0 : Below w.heap.size w w0 := (Below.refl _ _).grown hg0 (Nat.le_refl _) (by intro k hk; simp at hk)
  have HF0 : Hid (FC w H s v [] s.bs (.slice (some ⟨w.heap.size, 0, none⟩) 0 (G + 1)) w0) := ⟨HH.out.below hb0, ho0, (Ch.ofBelow (S := fun q => v.bv.ownBlock = some q) hb0)⟩
  have c3' := HF0.out.hat.c3
  rw [HGV.out] at c3'
  clear ho0 hg0 hb0 c3
  go_wp2
  go_step3
  go_wp2
  go_loopw [8, 9, 30] (fun fv lv ix wr => ∃ (k : Nat) (acc : List (Nat × Nat)) (N : Nat) (b : List Nat), k ≤ G ∧ ix = .int .i64 k ∧ fv = .int .i64 (N : Int) ∧ Hid (FC w H s v acc b lv wr) ∧ Hid (FE o e d s.gp s.bs k acc N b)) (fun _ _ ix _ => G - (intOf ix).toNat)
  case atStart => exact ⟨0, [], 0, s.bs, Nat.zero_le _, rfl, rfl, HF0, FE.start _ _ _ _ _⟩
  case round =>
    obtain ⟨k, acc, N, b, hk, rfl, rfl, HFC, HFE⟩ := hrel
    clear HF0 c3'
    obtain ⟨la, lc, hle⟩ := owns_shape HFC.out.own
    obtain ⟨A, hA⟩ : ∃ A, A = acc.length := ⟨_, rfl⟩
    rw [← hA] at hle
    subst hle
    have HA : Hid (A = acc.length) := hA
    clear hA
    by_cases hge : G ≤ k
    · obtain ⟨f1, f2, f3⟩ := HFE.out.fin (by rw [← HG.out]; omega)
      have HF : Hid (Moved w H v (wr.setCell ⟨H, 3, none⟩ (.slice la A lc)) Sf) := HFC.out.fin HH.out (by rw [HSF.out, f1, f3])
      have HNN : Hid (N = Nf) := by show N = Nf; rw [HNF.out]; exact f2
      have c3'' := HFC.out.hat.c3
      have f3'' := HFC.out.hat.fz 3
      clear f1 f2 f3 HFC HFE
      go_wp2
      (try rw [Exit.noGoto_ret])
      go_ret
      exact ⟨by rw [HNN.out]; rfl, HF.out⟩
    · have hlt : k < G := by omega
      clear hge
      obtain ⟨g, hga, cc1, cc2⟩ := HC.out k hlt
      have hgl := HGL.out g hga
      subst hga
      obtain ⟨x, y, hxy⟩ : ∃ x y, s.gp.getD k (0, 0) = (x, y) := ⟨_, _, rfl⟩
      rw [hxy] at cc1 cc2
      have d1 := HB1.out k hlt
      rw [hxy] at d1
      simp only at cc1 cc2 d1
      obtain ⟨d1a, d1b⟩ := d1
      have HXL : Hid (x < y) := by have := HRR.out.1.at k (by rw [← HG.out]; exact hlt); rw [hxy] at this; exact this.1
      have cc1' : wr.cell? ⟨g, k * 2, none⟩ = some (.int .i64 (x : Int)) := HFC.out.ch.cell cc1 hgl.2
      have cc2' : wr.cell? ⟨g, k * 2 + 1, none⟩ = some (.int .i64 (y : Int)) := HFC.out.ch.cell cc2 hgl.2
      have HXY : Hid (s.gp.getD k (0, 0) = (x, y)) := hxy
      have HLT : Hid (k < G) := hlt
      obtain ⟨P, hP⟩ : ∃ P, P = wr.heap.size := ⟨_, rfl⟩
      obtain ⟨W, hW⟩ : ∃ W, W = wr.alloc (.cells #[.int .i64 (x : Int), .int .i64 (y : Int)] 45) := ⟨_, rfl⟩
      have hbW : Below wr.heap.size wr W := by rw [hW]; exact (Below.refl _ _).alloc (Nat.le_refl _) _
      have HFW : Hid (FC w H s v acc b (.slice la A lc) W) := HFC.out.below hbW
      have p0 : W.cell? ⟨P, 0, none⟩ = some (.int .i64 (x : Int)) := by rw [hW, hP]; exact two0 _ _ _
      have p1 : W.cell? ⟨P, 1, none⟩ = some (.int .i64 (y : Int)) := by rw [hW, hP]; exact two1 _ _ _
      have HPG : Hid (w.heap.size ≤ P) := by rw [hP]; exact HFC.out.ch.size
      have HLP : Hid (∀ q, (Value.slice la A lc).ownBlock = some q → q < P) := fun q hq => by rw [hP]; exact (HFC.out.own.lt q hq).2
      have HNL : Hid (N ≤ 65535) := by have h1 := HFE.out.n_le HOE.out HRR.out.1; exact Nat.le_trans h1 he5
      have HWW : Hid (wr.alloc (.cells #[.int .i64 (x : Int), .int .i64 (y : Int)] 45) = W) := hW.symm
      have HPP : Hid (wr.heap.size = P) := hP.symm
      clear hW hP hbW cc1 cc2 hxy hgl HFC
      go_upto_region 6 with fail
      rw [HWW.out, HPP.out]
      have HAL : Hid (acc.length ≤ 65535) := by have h1 := HFE.out.acc_le HOE.out HRR.out.1; have h2 := HRR.out.2; exact Nat.le_trans h1 h2
      by_cases t1 : y ≤ o
      · have u1 : (y : Int) ≤ (o : Int) := by omega
        have t1 : Hid (y ≤ o) := t1
        have ho5 : W.ownsRow w.heap.size 45 2 (.slice la A lc) A (gC (acc)) := by have := HFW.out.own; rw [← HA.out] at this; exact this
        have hs5 : w.heap.size ≤ W.heap.size := HFW.out.ch.size
        have hA5 : A ≤ 65540 := by have := HAL.out; have := HA.out; (try simp only [List.length_append, List.length_cons, List.length_nil] at this); omega
        go_wp2_with (first | (at_builtin; refine append_gaps rfl (.tmp 40) (.tmp 42) rfl w.heap.size ((.slice la A lc)) A (gC (acc)) rfl (ho5.alloc _) (some ⟨W.heap.size, 0, none⟩) 1 1 [(x, y)] rfl rfl ?c0x1 ?c1x1 ?c2x1 ?c3x1 ?_))
        try (case c0x1 => intro k; simp at k)
        case c1x1 => first | (intro b0 hb0; simp at hb0; subst hb0; exact two_new _ _ _) | exact two_new' _ _ _ | (intro j u hj; first | exact two_new' _ _ _ j u hj | exact hj | simpa [gC] using hj)
        case c2x1 => omega
        case c3x1 => first | (simp; omega) | omega
        intro v5 w5 r1 r2 _
        obtain ⟨la5, lc5, hv5⟩ := owns_shape r1
        subst hv5
        have HF5 : Hid (FC w H s v (acc ++ [(x, y)]) b (.slice la5 (A + 1) lc5) w5) := by
          refine (HFW.out.below ((Below.refl _ _).alloc (Nat.le_refl _) _)).app HH.out (acc' := acc ++ [(x, y)]) ?_ r2
          rw [gC_app, List.length_append, ← HA.out]
          exact r1
        have HA5 : Hid (A + 1 = (acc ++ [(x, y)]).length) := by show _ = _; rw [List.length_append, ← HA.out]; rfl
        clear r1 r2 ho5 hs5 hA5
        have HE5 : Hid (FE o e d s.gp s.bs (k + 1) (acc ++ [(x, y)]) N b) := HFE.out.skip (by rw [← HG.out]; exact HLT.out) HXY.out t1.out
        clear HFW HFE
        go_wp2
        go_roundw
        case rel => exact ⟨k + 1, _, N, b, by omega, by go_num, rfl, HF5, HE5⟩
        case measure => simp [intOf]; omega
      · have u1 : ¬ (y : Int) ≤ (o : Int) := by omega
        have t1 : Hid (¬ y ≤ o) := t1
        by_cases t2 : e ≤ x
        · have u2 : (e : Int) ≤ (x : Int) := by omega
          have t2 : Hid (e ≤ x) := t2
          have c3'' := HFW.out.hat.c3
          rw [HGV.out] at c3''
          have HST : Hid _ := HFE.out.stop (by rw [← HG.out]; exact HLT.out) HXY.out t1.out t2.out
          have hoS : W.ownsRow w.heap.size 45 2 (.slice la A lc) A (gC acc) := by have := HFW.out.own; rw [← HA.out] at this; exact this
          have hsS : w.heap.size ≤ W.heap.size := HFW.out.ch.size
          have hAS : A ≤ 65540 := by have := HAL.out; have := HA.out; omega
          have HGC : Hid (∀ j u, (gC (s.gp.drop k))[j]? = some u → W.cell? ⟨g, k * 2 + j, none⟩ = some u) := by
            intro j u hj
            have ho := HFW.out.hat.go
            rw [HGV.out] at ho
            rw [← gC_drop, List.getElem?_drop] at hj
            have := ho.cells (g := g) rfl (k * 2 + j) u hj
            rw [Addr.add_lit, Nat.zero_add] at this
            exact this
          have hgc := HGE.out
          go_wp2_with (first | (at_builtin; refine append_gaps rfl (.tmp 49) (.tmp 55) rfl w.heap.size (.slice la A lc) A (gC acc) rfl hoS (some ⟨g, k * 2, none⟩) (G - k) _ (s.gp.drop k) rfl ?c4 ?c0 ?c1 ?c2 ?c3 ?_))
          case c4 => first | rw [List.length_drop, ← HG.out] | rw [← HG.out]
          try (case c0 => intro k; simp at k)
          case c1 => exact HGC.out
          case c2 => omega
          intro v5 w5 r1 r2 _
          obtain ⟨la5, lc5, hv5⟩ := owns_shape r1
          subst hv5
          have HF5 : Hid (FC w H s v (acc ++ s.gp.drop k) b (.slice la5 (A + (G - k)) lc5) w5) := by
            refine HFW.out.app HH.out (acc' := acc ++ s.gp.drop k) ?_ r2
            rw [gC_app, List.length_append, ← HA.out, List.length_drop, ← HG.out]
            exact r1
          obtain ⟨A5, hA5⟩ : ∃ A5, A5 = A + (G - k) := ⟨_, rfl⟩
          rw [← hA5] at HF5 ⊢
          have HF : Hid (Moved w H v (w5.setCell ⟨H, 3, none⟩ (.slice la5 A5 lc5)) Sf) := HF5.out.fin HH.out (by rw [HSF.out, HST.out.1, HST.out.2.2])
          have HNN : Hid (N = Nf) := by show N = Nf; rw [HNF.out]; exact HST.out.2.1
          have c35 := HF5.out.hat.c3
          have f35 := HF5.out.hat.fz 3
          clear r1 r2 hoS hsS hAS hA5 HFW HFE HST hgc c3''
          go_wp2
          (try rw [Exit.noGoto_ret])
          go_ret
          exact ⟨by rw [HNN.out]; rfl, HF.out⟩
        · have u2 : ¬ (e : Int) ≤ (x : Int) := by omega
          have t2 : Hid (¬ e ≤ x) := t2
          obtain ⟨F, hF⟩ : ∃ F, Hid (F = max x o) := ⟨_, rfl⟩
          obtain ⟨T, hT⟩ : ∃ T, Hid (T = min y e) := ⟨_, rfl⟩
          have HCT : Hid _ := HFE.out.cut (by rw [← HG.out]; exact HLT.out) HXY.out t1.out t2.out (by rw [HE.out, HN.out]) HOB.out.1 hF.out hT.out
          obtain ⟨LL, hLL⟩ : ∃ LL, LL = b.length := ⟨_, rfl⟩
          have HLL : Hid (LL = b.length) := hLL
          have hLe : e ≤ LL := by have h1 := HFE.out.l; have h2 := HOB.out.1; omega
          have hL5 : LL ≤ 65535 := by have h1 := HFE.out.l; have h2 := HOB.out.2; omega
          obtain ⟨gb, bc, hbv, hbc⟩ : ∃ gb bc, v.bv = .slice (some ⟨gb, 0, none⟩) LL bc ∧ LL ≤ bc := by
            have ho := HFW.out.hat.bo
            rcases ho.2 with ⟨e1, e2⟩ | ⟨g', cap, cur, e1, e2, e3, e4, e5, e6, e7⟩
            · exfalso
              have e2' : b.length = 0 := e2
              omega
            · exact ⟨g', cap, by rw [hLL]; exact e1, by rw [hLL]; exact e4⟩
          have HBV : Hid (v.bv = .slice (some ⟨gb, 0, none⟩) LL bc) := hbv
          have cB := HFW.out.hat.c2
          have cB : W.cell? ⟨H, 2, none⟩ = some (.slice (some ⟨gb, 0, none⟩) LL bc) := by rw [cB]; exact congrArg some hbv
          have q1 : o ≤ F := by have := hF.out; omega
          have q2 : x ≤ F := by have := hF.out; omega
          have q3 : F < T := by have h1 := hF.out; have h2 := hT.out; have h3 := t1.out; have h4 := t2.out; have h5 := HOE.out; have h6 := HXL.out; omega
          have q4 : T ≤ e := by have := hT.out; omega
          have q5 : T ≤ y := by have := hT.out; omega
          have q6 : F - o < n := by have := HE.out; omega
          clear hbv hLL
          go_upto_region 10 with fail
          refine MixH.start (fun A => A.cell? ⟨P, 0, none⟩ = some (.int .i64 (x : Int)) ∧ A.cell? ⟨P, 1, none⟩ = some (.int .i64 (y : Int)) ∧ A.cell? ⟨H, 2, none⟩ = some (.slice (some ⟨gb, 0, none⟩) LL bc)) (by kernel_rfl) ?_
          obtain ⟨wA, hwA⟩ : ∃ wA, wA = W.drew := ⟨_, rfl⟩
          have hS : wA.cell? ⟨P, 0, none⟩ = some (.int .i64 (x : Int)) ∧ wA.cell? ⟨P, 1, none⟩ = some (.int .i64 (y : Int)) ∧ wA.cell? ⟨H, 2, none⟩ = some (.slice (some ⟨gb, 0, none⟩) LL bc) := by rw [hwA]; exact ⟨p0, p1, cB⟩
          have HFA : Hid (FC w H s v acc b (.slice la A lc) wA) := by rw [hwA]; exact HFW.out.drew
          rw [← hwA]
          clear hwA p0 p1 cB HFW
          refine MixH.takes [true, false, true, false, true, false, true] 6 (by kernel_rfl) (by kernel_rfl) (by decide) (by kernel_rfl) hS (fun K hK => ?_)
          simp only [Mix.pick]
          repeat (go_big_quiet_step (fail))
          refine wpQuiet_nil (hK _ ?_)
          clear hK K
          refine MixH.take 5 1 _ (.int .i64 (x : Int)) rfl (by kernel_rfl) (by kernel_rfl) (by kernel_rfl) (by kernel_rfl) (yields_int (.tmp 57) rfl ⟨P, 0, none⟩ _ rfl rfl (fun A hA => hA.1)) hS (fun a' ha => ?_)
          simp only [Act.put, List.setIfInBounds_toArray, List.set_cons_succ, List.set_cons_zero] at ha
          subst ha
          refine MixH.take 4 5 _ (.int .i64 (y : Int)) rfl (by kernel_rfl) (by kernel_rfl) (by kernel_rfl) (by kernel_rfl) (yields_int (.tmp 61) rfl ⟨P, 1, none⟩ _ rfl rfl (fun A hA => hA.2.1)) hS (fun a' ha => ?_)
          simp only [Act.put, List.setIfInBounds_toArray, List.set_cons_succ, List.set_cons_zero] at ha
          subst ha
          refine MixH.take 3 3 _ (.int .i64 (F : Int)) rfl (by kernel_rfl) (by kernel_rfl) (by kernel_rfl) (by kernel_rfl) (yields_max (.tmp 58) (.tmp 59) _ rfl x o F hF.out rfl rfl rfl) hS (fun a' ha => ?_)
          simp only [Act.put, List.setIfInBounds_toArray, List.set_cons_succ, List.set_cons_zero] at ha
          subst ha
          refine MixH.take 2 7 _ (.int .i64 (T : Int)) rfl (by kernel_rfl) (by kernel_rfl) (by kernel_rfl) (by kernel_rfl) (yields_min (.tmp 62) (.tmp 63) _ rfl y e T hT.out rfl rfl rfl) hS (fun a' ha => ?_)
          simp only [Act.put, List.setIfInBounds_toArray, List.set_cons_succ, List.set_cons_zero] at ha
          subst ha
          refine MixH.takes [false, false, false, false, false, false, false, false, true, true] 0 (by kernel_rfl) (by kernel_rfl) (by decide) (by kernel_rfl) hS (fun K hK => ?_)
          simp only [Mix.pick]
          repeat (go_big_quiet_step (fail))
          refine wpQuiet_nil (hK _ ?_)
          clear hK K
          refine MixH.done (by kernel_rfl) ?_
          go_upto_region 11 with fail
          refine MixH.start (fun A => A.cell? ⟨P, 0, none⟩ = some (.int .i64 (x : Int)) ∧ A.cell? ⟨P, 1, none⟩ = some (.int .i64 (y : Int)) ∧ A.cell? ⟨H, 2, none⟩ = some (.slice (some ⟨gb, 0, none⟩) LL bc)) (by kernel_rfl) ?_
          obtain ⟨wB, hwB⟩ : ∃ wB, wB = wA.drew := ⟨_, rfl⟩
          replace hS : wB.cell? ⟨P, 0, none⟩ = some (.int .i64 (x : Int)) ∧ wB.cell? ⟨P, 1, none⟩ = some (.int .i64 (y : Int)) ∧ wB.cell? ⟨H, 2, none⟩ = some (.slice (some ⟨gb, 0, none⟩) LL bc) := by rw [hwB]; exact hS
          have HFB : Hid (FC w H s v acc b (.slice la A lc) wB) := by rw [hwB]; exact HFA.out.drew
          rw [← hwB]
          clear hwB HFA
          have m1 : (0 : Int) ≤ (F : Int) - (o : Int) := by omega
          have m2 : IntKind.i64.wrap ((F : Int) - (o : Int)) = ((F - o : Nat) : Int) := by rw [IntKind.wrap_i64]; omega
          have w5 : IntKind.i64.wrap ((N : Int) + ((T - F : Nat) : Int)) = ((N + (T - F) : Nat) : Int) := by rw [IntKind.wrap_i64]; have := HNL.out; omega
          refine MixH.takes [true, true, true, true, false, true, true, false, true, true, true, true] 6 (by kernel_rfl) (by kernel_rfl) (by decide) (by kernel_rfl) hS (fun K hK => ?_)
          simp only [Mix.pick]
          repeat (go_big_quiet_step (fail))
          refine wpQuiet_nil (hK _ ?_)
          clear hK K
          refine MixH.take 5 4 _ (.slice (some ⟨gb, 0, none⟩) LL bc) rfl (by kernel_rfl) (by kernel_rfl) (by kernel_rfl) (by kernel_rfl) (yields_bytes (.tmp 68) rfl ⟨H, 2, none⟩ _ rfl rfl (fun A hA => hA.2.2)) hS (fun a' ha => ?_)
          simp only [Act.put, List.setIfInBounds_toArray, List.set_cons_succ, List.set_cons_zero] at ha
          subst ha
          refine MixH.takes [false, false, false, false, false, false, false, true, false, false, false, false, true] 3 (by kernel_rfl) (by kernel_rfl) (by decide) (by kernel_rfl) hS (fun K hK => ?_)
          simp only [Mix.pick]
          repeat (go_big_quiet_step (fail))
          refine wpQuiet_nil (hK _ ?_)
          clear hK K
          refine MixH.one [false, false, false, false, false, false, false, false, false, false, false, false, false, true] 2 13 _ rfl rfl (by kernel_rfl) (by kernel_rfl) (fun K hK => ?_)
          simp only [Mix.pick]
          obtain ⟨cur, hcur, hcl⟩ : ∃ cur : List Value, wB.heap[gb]? = some (.cells cur.toArray 5 (0, 0)) ∧ cur.length = bc := by
            have ho := HFB.out.hat.bo
            rw [HBV.out] at ho
            rcases ho.2 with ⟨e1, _⟩ | ⟨g', cap, cur', e1, e2, e3, e4, e5, e6, e7⟩
            · simp at e1
            · simp only [Value.slice.injEq, Option.some.injEq, Addr.mk.injEq, and_true] at e1
              obtain ⟨rfl, _, rfl⟩ := e1
              exact ⟨cur'.toList, by simpa using e3, by simpa using e6⟩
          obtain ⟨ds, hds⟩ : ∃ ds, ds = (d.drop (F - o)).take (T - F) := ⟨_, rfl⟩
          have hdl : ds.length = T - F := by rw [hds, seg_len d o F T (by rw [← HN.out, ← HE.out]; exact q4) q1]
          have HDS : Hid (∀ j u, ((toI ds).map (Value.int .u8))[j]? = some u → wB.cell? ((⟨db, dof + (F - o), none⟩ : Addr).add j) = some u) := by
            intro j u hj
            have hjl : j < ds.length := by
              have := (List.getElem?_eq_some_iff.1 hj).1
              simpa [toI] using this
            have e1 : ((toI ds).map (Value.int .u8))[j]? = some (.int .u8 ((toI d).getD (F - o + j) 0)) := by
              rw [hds, toI_getD]
              have : j < T - F := by omega
              have h2 : F - o + j < d.length := by rw [← HN.out]; have := HE.out; omega
              simp [toI, List.getElem?_drop, this, List.getD, h2]
            rw [e1] at hj
            have h3 := HSG.out (F - o + j) (by rw [toI_len, ← HN.out]; have := HE.out; omega)
            have h4 := HFB.out.ch.cell h3 (fun e => HDN.out (.inr (.inr (.inl e))))
            rw [Addr.add_lit, Nat.add_assoc, h4]
            exact hj
          refine wpList_copy_bytes rfl (.tmp 72) (.tmp 77) 22 22 rfl 5 Try.underlying22 Try.sizeByte gb F (T - F) (bc - F) ⟨db, dof + (F - o), none⟩ (n - (F - o)) (c - (F - o)) rfl rfl cur 5 hcur ((toI ds).map (Value.int .u8)) (T - F) (by simp [toI, hdl]) ?m2 HDS.out (by omega) ?m5 ?_
          case m2 =>
            show T - F = min (n - (F - o)) (T - F)
            have := HE.out
            omega
          case m5 => intro u hu; simp only [List.mem_map] at hu; obtain ⟨z, _, rfl⟩ := hu; rfl
          intro wC hC kC
          have hgbO : v.bv.ownBlock = some gb := by rw [HBV.out]; rfl
          have hPg : ¬ P = gb := by have h1 := HH.out.lt gb (.inr (.inr (.inl hgbO))); have h2 := HPG.out; omega
          have hHg : ¬ H = gb := fun e => HH.out.nbH (by rw [hgbO, e])
          replace hS : wC.cell? ⟨P, 0, none⟩ = some (.int .i64 (x : Int)) ∧ wC.cell? ⟨P, 1, none⟩ = some (.int .i64 (y : Int)) ∧ wC.cell? ⟨H, 2, none⟩ = some (.slice (some ⟨gb, 0, none⟩) LL bc) := ⟨kC.cell hS.1 hPg, kC.cell hS.2.1 hPg, kC.cell hS.2.2 hHg⟩
          have HFX : Hid (FC w H s v acc (spl b F ds) (.slice la A lc) wC) := by
            have hb' : (spl b F ds).length = LL := by rw [spl_len _ _ _ (by rw [hdl, ← HLL.out]; omega), ← HLL.out]
            refine HFB.out.cpy HH.out hgbO kC ?_
            rw [hb', HBV.out]
            have ho := HFB.out.hat.bo
            rw [HBV.out] at ho
            have ho' : wB.ownsRow 0 5 1 (.slice (some ⟨gb, 0, none⟩) LL bc) LL ((toI b).map (Value.int .u8)) := by rw [HLL.out]; rw [HLL.out] at ho; exact ho
            exact owns_splice ho' hcur hC (by rw [hdl]; omega) HLL.out.symm
          rw [← hds] at HCT
          clear hcur hcl hdl HDS hC kC hgbO hPg hHg hds HFB
          go_wp2
          refine ⟨rfl, hK _ _ hS ?_⟩
          clear hK K
          refine MixH.takes [false, false, false, false, false, false, false, false, false, false, false, false, false, false, true, true] 0 (by kernel_rfl) (by kernel_rfl) (by decide) (by kernel_rfl) hS (fun K hK => ?_)
          simp only [Mix.pick]
          repeat (go_big_quiet_step (fail))
          refine wpQuiet_nil (hK _ ?_)
          clear hK K
          refine MixH.done (by kernel_rfl) ?_
          obtain ⟨b', hb'⟩ : ∃ b', b' = spl b F ds := ⟨_, rfl⟩
          rw [← hb'] at HCT HFX
          obtain ⟨N', hN'⟩ : ∃ N', N' = N + (T - F) := ⟨_, rfl⟩
          rw [← hN'] at HCT
          have eN : (N : Int) + ((T - F : Nat) : Int) = (N' : Int) := by omega
          rw [eN]
          clear eN
          have hN5 : N' ≤ 200000 := by have := HNL.out; omega
          clear hb' hN' w5 m1 m2
          by_cases a3 : x < F
          · have a3i : (x : Int) < (F : Int) := by omega
            rw [if_pos a3] at HCT
            by_cases a4 : T < y
            · have a4i : (T : Int) < (y : Int) := by omega
              rw [if_pos a4] at HCT
              clear a3 a4
              have pp := hS
              obtain ⟨p0, p1, _⟩ := hS
              have ho6 : wC.ownsRow w.heap.size 45 2 (.slice la A lc) A (gC (acc)) := by have := HFX.out.own; rw [← HA.out] at this; exact this
              have hs6 : w.heap.size ≤ wC.heap.size := HFX.out.ch.size
              have hA6 : A ≤ 65540 := by have := HAL.out; have := HA.out; (try simp only [List.length_append, List.length_cons, List.length_nil] at this); omega
              go_wp2_with (first | (at_builtin; refine append_gaps rfl (.tmp 84) (.tmp 89) rfl w.heap.size ((.slice la A lc)) A (gC (acc)) rfl (ho6.alloc _) (some ⟨wC.heap.size, 0, none⟩) 1 1 [(x, F)] rfl rfl ?c0x2 ?c1x2 ?c2x2 ?c3x2 ?_))
              try (case c0x2 => intro k; simp at k)
              case c1x2 => first | (intro b0 hb0; simp at hb0; subst hb0; exact two_new _ _ _) | exact two_new' _ _ _ | (intro j u hj; first | exact two_new' _ _ _ j u hj | exact hj | simpa [gC] using hj)
              case c2x2 => omega
              case c3x2 => first | (simp; omega) | omega
              intro v6 w6 r1 r2 _
              obtain ⟨la6, lc6, hv6⟩ := owns_shape r1
              subst hv6
              have HF6 : Hid (FC w H s v (acc ++ [(x, F)]) b' (.slice la6 (A + 1) lc6) w6) := by
                refine (HFX.out.below ((Below.refl _ _).alloc (Nat.le_refl _) _)).app HH.out (acc' := acc ++ [(x, F)]) ?_ r2
                rw [gC_app, List.length_append, ← HA.out]
                exact r1
              have HA6 : Hid (A + 1 = (acc ++ [(x, F)]).length) := by show _ = _; rw [List.length_append, ← HA.out]; rfl
              have k6 : Ch (fun q => (Value.slice la A lc).ownBlock = some q) wC w6 := (Ch.ofBelow (S := fun q => (Value.slice la A lc).ownBlock = some q) ((Below.refl _ _).alloc (Nat.le_refl _) _)).trans (Ch.ofGrown r2) (fun _ _ e => e)
              have p06 := k6.cell pp.1 (fun e => absurd (HLP.out _ e) (Nat.lt_irrefl _))
              have p16 := k6.cell pp.2.1 (fun e => absurd (HLP.out _ e) (Nat.lt_irrefl _))
              clear k6
              clear r1 r2 ho6 hs6 hA6
              have pp6 : w6.cell? ⟨P, 0, none⟩ = some (.int .i64 (x : Int)) ∧ w6.cell? ⟨P, 1, none⟩ = some (.int .i64 (y : Int)) ∧ True := ⟨p06, p16, trivial⟩
              clear pp p0 p1
              have ho7 : w6.ownsRow w.heap.size 45 2 (.slice la6 (A + 1) lc6) (A + 1) (gC (acc ++ [(x, F)])) := by have := HF6.out.own; rw [← HA6.out] at this; exact this
              have hs7 : w.heap.size ≤ w6.heap.size := HF6.out.ch.size
              have hA7 : (A + 1) ≤ 65540 := by have := HAL.out; have := HA6.out; (try simp only [List.length_append, List.length_cons, List.length_nil] at this); omega
              go_wp2_with (first | (at_builtin; refine append_gaps rfl (.tmp 95) (.tmp 100) rfl w.heap.size ((.slice la6 (A + 1) lc6)) (A + 1) (gC (acc ++ [(x, F)])) rfl (ho7.alloc _) (some ⟨w6.heap.size, 0, none⟩) 1 1 [(T, y)] rfl rfl ?c0x3 ?c1x3 ?c2x3 ?c3x3 ?_))
              try (case c0x3 => intro k; simp at k)
              case c1x3 => first | (intro b0 hb0; simp at hb0; subst hb0; exact two_new _ _ _) | exact two_new' _ _ _ | (intro j u hj; first | exact two_new' _ _ _ j u hj | exact hj | simpa [gC] using hj)
              case c2x3 => omega
              case c3x3 => first | (simp; omega) | omega
              intro v7 w7 r1 r2 _
              obtain ⟨la7, lc7, hv7⟩ := owns_shape r1
              subst hv7
              have HF7 : Hid (FC w H s v (acc ++ [(x, F)] ++ [(T, y)]) b' (.slice la7 ((A + 1) + 1) lc7) w7) := by
                refine (HF6.out.below ((Below.refl _ _).alloc (Nat.le_refl _) _)).app HH.out (acc' := acc ++ [(x, F)] ++ [(T, y)]) ?_ r2
                rw [gC_app, List.length_append, ← HA6.out]
                exact r1
              have HA7 : Hid ((A + 1) + 1 = (acc ++ [(x, F)] ++ [(T, y)]).length) := by show _ = _; rw [List.length_append, ← HA6.out]; rfl
              clear r1 r2 ho7 hs7 hA7
              go_wp2
              go_roundw
              case rel => exact ⟨k + 1, _, N', b', by omega, by go_num, rfl, HF7, HCT⟩
              case measure => simp [intOf]; omega
            · have a4i : ¬ (T : Int) < (y : Int) := by omega
              rw [if_neg a4, List.append_nil] at HCT
              clear a3 a4
              have pp := hS
              obtain ⟨p0, p1, _⟩ := hS
              have ho6 : wC.ownsRow w.heap.size 45 2 (.slice la A lc) A (gC (acc)) := by have := HFX.out.own; rw [← HA.out] at this; exact this
              have hs6 : w.heap.size ≤ wC.heap.size := HFX.out.ch.size
              have hA6 : A ≤ 65540 := by have := HAL.out; have := HA.out; (try simp only [List.length_append, List.length_cons, List.length_nil] at this); omega
              go_wp2_with (first | (at_builtin; refine append_gaps rfl (.tmp 84) (.tmp 89) rfl w.heap.size ((.slice la A lc)) A (gC (acc)) rfl (ho6.alloc _) (some ⟨wC.heap.size, 0, none⟩) 1 1 [(x, F)] rfl rfl ?c0x4 ?c1x4 ?c2x4 ?c3x4 ?_))
              try (case c0x4 => intro k; simp at k)
              case c1x4 => first | (intro b0 hb0; simp at hb0; subst hb0; exact two_new _ _ _) | exact two_new' _ _ _ | (intro j u hj; first | exact two_new' _ _ _ j u hj | exact hj | simpa [gC] using hj)
              case c2x4 => omega
              case c3x4 => first | (simp; omega) | omega
              intro v6 w6 r1 r2 _
              obtain ⟨la6, lc6, hv6⟩ := owns_shape r1
              subst hv6
              have HF6 : Hid (FC w H s v (acc ++ [(x, F)]) b' (.slice la6 (A + 1) lc6) w6) := by
                refine (HFX.out.below ((Below.refl _ _).alloc (Nat.le_refl _) _)).app HH.out (acc' := acc ++ [(x, F)]) ?_ r2
                rw [gC_app, List.length_append, ← HA.out]
                exact r1
              have HA6 : Hid (A + 1 = (acc ++ [(x, F)]).length) := by show _ = _; rw [List.length_append, ← HA.out]; rfl
              have k6 : Ch (fun q => (Value.slice la A lc).ownBlock = some q) wC w6 := (Ch.ofBelow (S := fun q => (Value.slice la A lc).ownBlock = some q) ((Below.refl _ _).alloc (Nat.le_refl _) _)).trans (Ch.ofGrown r2) (fun _ _ e => e)
              have p06 := k6.cell pp.1 (fun e => absurd (HLP.out _ e) (Nat.lt_irrefl _))
              have p16 := k6.cell pp.2.1 (fun e => absurd (HLP.out _ e) (Nat.lt_irrefl _))
              clear k6
              clear r1 r2 ho6 hs6 hA6
              clear pp p0 p1
              go_wp2
              go_roundw
              case rel => exact ⟨k + 1, _, N', b', by omega, by go_num, rfl, HF6, HCT⟩
              case measure => simp [intOf]; omega
          · have a3i : ¬ (x : Int) < (F : Int) := by omega
            rw [if_neg a3, List.append_nil] at HCT
            by_cases a4 : T < y
            · have a4i : (T : Int) < (y : Int) := by omega
              rw [if_pos a4] at HCT
              clear a3 a4
              obtain ⟨p0, p1, _⟩ := hS
              have ho7 : wC.ownsRow w.heap.size 45 2 (.slice la A lc) A (gC (acc)) := by have := HFX.out.own; rw [← HA.out] at this; exact this
              have hs7 : w.heap.size ≤ wC.heap.size := HFX.out.ch.size
              have hA7 : A ≤ 65540 := by have := HAL.out; have := HA.out; (try simp only [List.length_append, List.length_cons, List.length_nil] at this); omega
              go_wp2_with (first | (at_builtin; refine append_gaps rfl (.tmp 95) (.tmp 100) rfl w.heap.size ((.slice la A lc)) A (gC (acc)) rfl (ho7.alloc _) (some ⟨wC.heap.size, 0, none⟩) 1 1 [(T, y)] rfl rfl ?c0x5 ?c1x5 ?c2x5 ?c3x5 ?_))
              try (case c0x5 => intro k; simp at k)
              case c1x5 => first | (intro b0 hb0; simp at hb0; subst hb0; exact two_new _ _ _) | exact two_new' _ _ _ | (intro j u hj; first | exact two_new' _ _ _ j u hj | exact hj | simpa [gC] using hj)
              case c2x5 => omega
              case c3x5 => first | (simp; omega) | omega
              intro v7 w7 r1 r2 _
              obtain ⟨la7, lc7, hv7⟩ := owns_shape r1
              subst hv7
              have HF7 : Hid (FC w H s v (acc ++ [(T, y)]) b' (.slice la7 (A + 1) lc7) w7) := by
                refine (HFX.out.below ((Below.refl _ _).alloc (Nat.le_refl _) _)).app HH.out (acc' := acc ++ [(T, y)]) ?_ r2
                rw [gC_app, List.length_append, ← HA.out]
                exact r1
              have HA7 : Hid (A + 1 = (acc ++ [(T, y)]).length) := by show _ = _; rw [List.length_append, ← HA.out]; rfl
              clear r1 r2 ho7 hs7 hA7
              go_wp2
              go_roundw
              case rel => exact ⟨k + 1, _, N', b', by omega, by go_num, rfl, HF7, HCT⟩
              case measure => simp [intOf]; omega
            · have a4i : ¬ (T : Int) < (y : Int) := by omega
              rw [if_neg a4, List.append_nil] at HCT
              clear a3 a4
              obtain ⟨p0, p1, _⟩ := hS
              go_wp2
              go_roundw
              case rel => exact ⟨k + 1, acc, N', b', by omega, by go_num, rfl, HFX, HCT⟩
              case measure => simp [intOf]; omega

end H11
end Go.Proofs.Ytcoaghcmbhogjaa
