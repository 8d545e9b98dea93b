/-
  Layer 15 (NeighOwn): Book.keep.
-/
import Derived.Test.YtnpipngiehohgaaNoX
import Derived.Deep.CutBlock
import Derived.Deep.DeepCutAuto
namespace Go.Proofs.Ytnpipngiehohgaa
open Go.RowKit Go.Maps
namespace No

theorem i64k (x : Int) (h0 : -1000000000000000000 ≤ x) (h1 : x ≤ 1000000000000000000) : IntKind.i64.wrap x = x := by rw [IntKind.wrap_i64]; omega
set_option maxHeartbeats 12800000 in
set_option maxRecDepth 100000 in
theorem keep_any (w : World) (BK : Nat) (b : BV) (h : BkM w BK b) (hl : b.N.length = b.I.length ∧ b.A.length = b.I.length ∧ b.I.length % 3 = 0) (hL : b.I.length ≤ 100000) (ia na aa : Option Addr) (nI ic nN nc nA ac : Nat) (xI xN xA : List Value) (hI : w.ownsRow 0 3 1 (.slice ia nI ic) nI xI) (hN : w.ownsRow 0 48 28 (.slice na nN nc) nN xN) (hA : w.ownsRow 0 114 25 (.slice aa nA ac) nA xA) (hb : nI ≤ 66000 ∧ nN ≤ 66000 ∧ nA ≤ 66000) (hnb : ∀ q, ((Value.slice ia nI ic).ownBlock = some q ∨ (Value.slice na nN nc).ownBlock = some q ∨ (Value.slice aa nA ac).ownBlock = some q) → ¬ BB BK b q) :
    Calls Try.prog 30 #[.pointer (some ⟨BK, 0, none⟩), (.slice ia nI ic), (.slice na nN nc), (.slice aa nA ac)] w fun r w' => r = .returned (.tuple #[]) ∧ ∃ b', BkM w' BK b' ∧ (b'.N.length = b'.I.length ∧ b'.A.length = b'.I.length ∧ b'.I.length = b.I.length + 3) ∧ (∀ x, BB BK b' x → BB BK b x ∨ ((Value.slice ia nI ic).ownBlock = some x ∨ (Value.slice na nN nc).ownBlock = some x ∨ (Value.slice aa nA ac).ownBlock = some x) ∨ w.heap.size ≤ x) ∧ Ch (fun x => BB BK b x ∨ (Value.slice ia nI ic).ownBlock = some x ∨ (Value.slice na nN nc).ownBlock = some x ∨ (Value.slice aa nA ac).ownBlock = some x) w w' := by
  obtain ⟨ba, bc, hbv⟩ := owns_shape h.oI
  obtain ⟨L, hLL⟩ : ∃ L, b.I.length = L := ⟨_, rfl⟩
  rw [hLL] at hbv
  obtain ⟨m, hm⟩ : ∃ m : Int, -100 - (L : Int) = m := ⟨_, rfl⟩
  have HM : Hid (m = pm L ∧ m = pm (L + 1) ∧ m = pm (L + 2)) := by
    have h3 := hl.2.2
    rw [hLL] at h3
    unfold pm
    exact ⟨by omega, by omega, by omega⟩
  have wu : IntKind.i64.wrap (-100 - (L : Int)) = m := by rw [IntKind.wrap_i64]; omega
  have c0 : w.cell? ⟨BK, 0, none⟩ = some (.slice ba L bc) := by rw [← hbv]; exact h.c0
  have HB : Hid (BkM w BK b ∧ (b.N.length = b.I.length ∧ b.A.length = b.I.length) ∧ b.I.length = L ∧ (∀ q, ((Value.slice ia nI ic).ownBlock = some q ∨ (Value.slice na nN nc).ownBlock = some q ∨ (Value.slice aa nA ac).ownBlock = some q) → ¬ BB BK b q)) := ⟨h, ⟨hl.1, hl.2.1⟩, hLL, hnb⟩
  have HRI : Hid (w.ownsRow 0 3 1 (.slice ia nI ic) nI xI) := hI
  have HRN : Hid (w.ownsRow 0 48 28 (.slice na nN nc) nN xN) := hN
  have HRA : Hid (w.ownsRow 0 114 25 (.slice aa nA ac) nA xA) := hA
  obtain ⟨b1, b2, b3⟩ := hb
  have HNM : Hid (nI ≤ 66000 ∧ nN ≤ 66000 ∧ nA ≤ 66000) := ⟨b1, b2, b3⟩
  have HLB : Hid (L ≤ 100000) := by show _ ≤ _; omega
  clear h hl hbv hLL hm hnb hI hN hA
  go_enter Try.func30, Try.ntmps30
  go_upto_block 0 with fail
  go_cut [] (fun wx => Hid (∃ ys, wx.ownsRow 0 3 1 (.slice ia nI ic) nI ys ∧ PtOk 1 nI m ys ∧ Ch (fun q => (Value.slice ia nI ic).ownBlock = some q) w wx))
  case first =>
    go_wp2
    go_loopw [9] (fun ix wr => ∃ k : Nat, k ≤ nI ∧ ix = .int .i64 (k : Int) ∧ Hid (∃ ys, wr.ownsRow 0 3 1 (.slice ia nI ic) nI ys ∧ PtOk 1 k m ys ∧ Ch (fun q => (Value.slice ia nI ic).ownBlock = some q) w wr)) (fun ix _ => nI - (intOf ix).toNat)
    case atStart => exact ⟨0, Nat.zero_le _, rfl, _, HRI.out, fun i hi => absurd hi (Nat.not_lt_zero _), Ch.refl _ _⟩
    case round =>
      obtain ⟨k, hk, rfl, HK⟩ := hrel
      obtain ⟨ys, h1, h2, h3⟩ := HK.out
      by_cases hge : nI ≤ k
      · obtain rfl : k = nI := by omega
        have d0 : ¬ (k : Int) < (k : Int) := by omega
        have HF : Hid (∃ ys, wr.ownsRow 0 3 1 (.slice ia k ic) k ys ∧ PtOk 1 k m ys ∧ Ch (fun q => (Value.slice ia k ic).ownBlock = some q) w wr) := ⟨ys, h1, h2, h3⟩
        clear hge h1 h2 h3 HK
        go_wp2
        go_meet
        exact HF
      · have d0 : (k : Int) < (nI : Int) := by omega
        have hkn : k < nI := by omega
        have hlen := h1.1
        obtain ⟨g, hga⟩ : ∃ g, ia = some ⟨g, 0, none⟩ := by
          rcases h1.2 with ⟨_, e2⟩ | ⟨g, cap, cur, e1, _⟩
          · omega
          · simp only [Value.slice.injEq, true_and] at e1
            exact ⟨g, e1.1⟩
        subst hga
        obtain ⟨zz, cg⟩ : ∃ z, wr.cell? ⟨g, k, none⟩ = some z := by
          rw [h1.cellAt (k) (by omega), List.getElem?_eq_getElem (by omega)]
          exact ⟨_, rfl⟩
        have fg := h1.frozenAt (k)
        have HK2 : Hid (∃ ys, (wr.setCell ⟨g, k, none⟩ (.int .i64 m)).ownsRow 0 3 1 (.slice (some ⟨g, 0, none⟩) nI ic) nI ys ∧ PtOk 1 (k + 1) m ys ∧ Ch (fun q => (Value.slice (some ⟨g, 0, none⟩) nI ic).ownBlock = some q) w (wr.setCell ⟨g, k, none⟩ (.int .i64 m))) := ⟨_, (h1.stored (k) (.int .i64 m)).1, by have h9 := h2.fill (by decide) hlen hkn; rw [Nat.mul_one] at h9; exact h9, h3.set ⟨g, k, none⟩ _ rfl⟩
        clear hge HK hlen h1 h2 h3
        go_wp2
        go_roundw
        case rel => exact ⟨k + 1, hkn, by go_num, HK2.out⟩
        case measure => simp [intOf]; omega
  case rest =>
    obtain ⟨yI, h1, h2, h3⟩ := hcut.out
    obtain ⟨w1, hw1⟩ : ∃ W_, W_ = wc := ⟨_, rfl⟩
    rw [← hw1] at h1 h3 ⊢
    have HDI : Hid (w1.ownsRow 0 3 1 (.slice ia nI ic) nI yI ∧ PtOk 1 nI m yI) := ⟨h1, h2⟩
    have HRN' : Hid (w1.ownsRow 0 48 28 (.slice na nN nc) nN xN) := h3.owns HRN.out (fun g hg e => apartT HRN.out HRI.out (by decide) g hg e)
    clear HRN
    have HRN := HRN'
    have HRA' : Hid (w1.ownsRow 0 114 25 (.slice aa nA ac) nA xA) := h3.owns HRA.out (fun g hg e => apartT HRA.out HRI.out (by decide) g hg e)
    clear HRA
    have HRA := HRA'
    have HCw1 : Hid (Ch (fun q => (Value.slice ia nI ic).ownBlock = some q ∨ (Value.slice na nN nc).ownBlock = some q ∨ (Value.slice aa nA ac).ownBlock = some q) w w1) := (h3.mono (fun _ _ e => .inl e))
    clear h1 h2 h3 hcut hw1
    clear c0 wu
    go_upto_block 2 with fail
    go_cut [] (fun wx => Hid (∃ ys, wx.ownsRow 0 48 28 (.slice na nN nc) nN ys ∧ PtOk 28 nN m ys ∧ Ch (fun q => (Value.slice na nN nc).ownBlock = some q) w1 wx))
    case first =>
      go_wp2
      go_loopw [10] (fun ix wr => ∃ k : Nat, k ≤ nN ∧ ix = .int .i64 (k : Int) ∧ Hid (∃ ys, wr.ownsRow 0 48 28 (.slice na nN nc) nN ys ∧ PtOk 28 k m ys ∧ Ch (fun q => (Value.slice na nN nc).ownBlock = some q) w1 wr)) (fun ix _ => nN - (intOf ix).toNat)
      case atStart => exact ⟨0, Nat.zero_le _, rfl, _, HRN.out, fun i hi => absurd hi (Nat.not_lt_zero _), Ch.refl _ _⟩
      case round =>
        obtain ⟨k, hk, rfl, HK⟩ := hrel
        obtain ⟨ys, h1, h2, h3⟩ := HK.out
        by_cases hge : nN ≤ k
        · obtain rfl : k = nN := by omega
          have d0 : ¬ (k : Int) < (k : Int) := by omega
          have HF : Hid (∃ ys, wr.ownsRow 0 48 28 (.slice na k nc) k ys ∧ PtOk 28 k m ys ∧ Ch (fun q => (Value.slice na k nc).ownBlock = some q) w1 wr) := ⟨ys, h1, h2, h3⟩
          clear hge h1 h2 h3 HK
          go_wp2
          go_meet
          exact HF
        · have d0 : (k : Int) < (nN : Int) := by omega
          have hkn : k < nN := by omega
          have hlen := h1.1
          obtain ⟨g, hga⟩ : ∃ g, na = some ⟨g, 0, none⟩ := by
            rcases h1.2 with ⟨_, e2⟩ | ⟨g, cap, cur, e1, _⟩
            · omega
            · simp only [Value.slice.injEq, true_and] at e1
              exact ⟨g, e1.1⟩
          subst hga
          obtain ⟨zz, cg⟩ : ∃ z, wr.cell? ⟨g, k * 28, none⟩ = some z := by
            rw [h1.cellAt (k * 28) (by omega), List.getElem?_eq_getElem (by omega)]
            exact ⟨_, rfl⟩
          have fg := h1.frozenAt (k * 28)
          have HK2 : Hid (∃ ys, (wr.setCell ⟨g, k * 28, none⟩ (.int .i64 m)).ownsRow 0 48 28 (.slice (some ⟨g, 0, none⟩) nN nc) nN ys ∧ PtOk 28 (k + 1) m ys ∧ Ch (fun q => (Value.slice (some ⟨g, 0, none⟩) nN nc).ownBlock = some q) w1 (wr.setCell ⟨g, k * 28, none⟩ (.int .i64 m))) := ⟨_, (h1.stored (k * 28) (.int .i64 m)).1, h2.fill (by decide) hlen hkn, h3.set ⟨g, k * 28, none⟩ _ rfl⟩
          clear hge HK hlen h1 h2 h3
          go_wp2
          go_roundw
          case rel => exact ⟨k + 1, hkn, by go_num, HK2.out⟩
          case measure => simp [intOf]; omega
    case rest =>
      obtain ⟨yN, h1, h2, h3⟩ := hcut.out
      obtain ⟨w2, hw2⟩ : ∃ W_, W_ = wc := ⟨_, rfl⟩
      rw [← hw2] at h1 h3 ⊢
      have HDN : Hid (w2.ownsRow 0 48 28 (.slice na nN nc) nN yN ∧ PtOk 28 nN m yN) := ⟨h1, h2⟩
      have HRA' : Hid (w2.ownsRow 0 114 25 (.slice aa nA ac) nA xA) := h3.owns HRA.out (fun g hg e => apartT HRA.out HRN.out (by decide) g hg e)
      clear HRA
      have HRA := HRA'
      have HDI' : Hid (w2.ownsRow 0 3 1 (.slice ia nI ic) nI yI ∧ PtOk 1 nI m yI) := ⟨h3.owns HDI.out.1 (fun g hg e => apartT HDI.out.1 HRN.out (by decide) g hg e), HDI.out.2⟩
      clear HDI
      have HDI := HDI'
      have HCw2 : Hid (Ch (fun q => (Value.slice ia nI ic).ownBlock = some q ∨ (Value.slice na nN nc).ownBlock = some q ∨ (Value.slice aa nA ac).ownBlock = some q) w w2) := HCw1.out.trans h3 (fun _ _ e => .inr (.inl e))
      clear h1 h2 h3 hcut hw2
      go_upto_block 4 with fail
      go_cut [] (fun wx => Hid (∃ ys, wx.ownsRow 0 114 25 (.slice aa nA ac) nA ys ∧ PtOk 25 nA m ys ∧ Ch (fun q => (Value.slice aa nA ac).ownBlock = some q) w2 wx))
      case first =>
        go_wp2
        go_loopw [11] (fun ix wr => ∃ k : Nat, k ≤ nA ∧ ix = .int .i64 (k : Int) ∧ Hid (∃ ys, wr.ownsRow 0 114 25 (.slice aa nA ac) nA ys ∧ PtOk 25 k m ys ∧ Ch (fun q => (Value.slice aa nA ac).ownBlock = some q) w2 wr)) (fun ix _ => nA - (intOf ix).toNat)
        case atStart => exact ⟨0, Nat.zero_le _, rfl, _, HRA.out, fun i hi => absurd hi (Nat.not_lt_zero _), Ch.refl _ _⟩
        case round =>
          obtain ⟨k, hk, rfl, HK⟩ := hrel
          obtain ⟨ys, h1, h2, h3⟩ := HK.out
          by_cases hge : nA ≤ k
          · obtain rfl : k = nA := by omega
            have d0 : ¬ (k : Int) < (k : Int) := by omega
            have HF : Hid (∃ ys, wr.ownsRow 0 114 25 (.slice aa k ac) k ys ∧ PtOk 25 k m ys ∧ Ch (fun q => (Value.slice aa k ac).ownBlock = some q) w2 wr) := ⟨ys, h1, h2, h3⟩
            clear hge h1 h2 h3 HK
            go_wp2
            go_meet
            exact HF
          · have d0 : (k : Int) < (nA : Int) := by omega
            have hkn : k < nA := by omega
            have hlen := h1.1
            obtain ⟨g, hga⟩ : ∃ g, aa = some ⟨g, 0, none⟩ := by
              rcases h1.2 with ⟨_, e2⟩ | ⟨g, cap, cur, e1, _⟩
              · omega
              · simp only [Value.slice.injEq, true_and] at e1
                exact ⟨g, e1.1⟩
            subst hga
            obtain ⟨zz, cg⟩ : ∃ z, wr.cell? ⟨g, k * 25, none⟩ = some z := by
              rw [h1.cellAt (k * 25) (by omega), List.getElem?_eq_getElem (by omega)]
              exact ⟨_, rfl⟩
            have fg := h1.frozenAt (k * 25)
            have HK2 : Hid (∃ ys, (wr.setCell ⟨g, k * 25, none⟩ (.int .i64 m)).ownsRow 0 114 25 (.slice (some ⟨g, 0, none⟩) nA ac) nA ys ∧ PtOk 25 (k + 1) m ys ∧ Ch (fun q => (Value.slice (some ⟨g, 0, none⟩) nA ac).ownBlock = some q) w2 (wr.setCell ⟨g, k * 25, none⟩ (.int .i64 m))) := ⟨_, (h1.stored (k * 25) (.int .i64 m)).1, h2.fill (by decide) hlen hkn, h3.set ⟨g, k * 25, none⟩ _ rfl⟩
            clear hge HK hlen h1 h2 h3
            go_wp2
            go_roundw
            case rel => exact ⟨k + 1, hkn, by go_num, HK2.out⟩
            case measure => simp [intOf]; omega
      case rest =>
        obtain ⟨yA, h1, h2, h3⟩ := hcut.out
        obtain ⟨w3, hw3⟩ : ∃ W_, W_ = wc := ⟨_, rfl⟩
        rw [← hw3] at h1 h3 ⊢
        have HDA : Hid (w3.ownsRow 0 114 25 (.slice aa nA ac) nA yA ∧ PtOk 25 nA m yA) := ⟨h1, h2⟩
        have HDI' : Hid (w3.ownsRow 0 3 1 (.slice ia nI ic) nI yI ∧ PtOk 1 nI m yI) := ⟨h3.owns HDI.out.1 (fun g hg e => apartT HDI.out.1 HRA.out (by decide) g hg e), HDI.out.2⟩
        clear HDI
        have HDI := HDI'
        have HDN' : Hid (w3.ownsRow 0 48 28 (.slice na nN nc) nN yN ∧ PtOk 28 nN m yN) := ⟨h3.owns HDN.out.1 (fun g hg e => apartT HDN.out.1 HRA.out (by decide) g hg e), HDN.out.2⟩
        clear HDN
        have HDN := HDN'
        have HCw3 : Hid (Ch (fun q => (Value.slice ia nI ic).ownBlock = some q ∨ (Value.slice na nN nc).ownBlock = some q ∨ (Value.slice aa nA ac).ownBlock = some q) w w3) := HCw2.out.trans h3 (fun _ _ e => .inr (.inr e))
        clear h1 h2 h3 hcut hw3
        have H0 : Hid (KpS w w3 BK b m (.slice ia nI ic) (.slice na nN nc) (.slice aa nA ac) nI nN nA 0 0 0 yI yN yA [] [] []) := ⟨⟨HDI.out.1, fun r hr => (by cases hr)⟩, ⟨HDN.out.1, fun r hr => (by cases hr)⟩, ⟨HDA.out.1, fun r hr => (by cases hr)⟩, HB.out.1.ch HCw3.out (fun x hx e => HB.out.2.2.2 x e hx), HCw3.out, fun r hr => (by cases hr), fun r hr => (by cases hr), fun r hr => (by cases hr), HB.out.2.2.2⟩
        clear HRI HRN HRA HCw1 HCw2 HCw3
        go_upto_region 14 with (first | (refine wpList_bsi1 (.tmp 57) rfl m rfl rfl ?_; intro X0 W0 e0 b0 n0) | (at_builtin; refine wpList_apI rfl (.tmp 56) (.tmp 58) rfl (H0.out.below b0) rfl X0 1 rfl n0 (by decide) (by have := HNM.out; omega) ?_; intro va0 vc0 v0w h0))
        have H1 : Hid _ := h0
        clear h0 b0 n0 e0 H0
        go_upto_region 15 with (first | (refine wpList_bsi2 (.tmp 61) (.tmp 62) rfl m rfl rfl rfl ?_; intro X1 W1 e1 b1 n1) | (at_builtin; refine wpList_apI rfl (.tmp 60) (.tmp 63) rfl (H1.out.below b1) rfl X1 2 rfl n1 (by decide) (by have := HNM.out; omega) ?_; intro va1 vc1 v1w h1))
        have H2 : Hid _ := h1
        clear h1 b1 n1 e1 H1
        go_upto_region 16 with (first | (refine wpList_nb1 (.tmp 66) rfl m rfl rfl ?_) | (refine wpList_bsb1 (.tmp 67) rfl m rfl rfl ?_; intro X2 W2 e2 b2 n2) | (at_builtin; refine wpList_apN rfl (.tmp 65) (.tmp 68) rfl (H2.out.below b2) rfl X2 1 rfl n2 (by decide) (by have := HNM.out; omega) ?_; intro va2 vc2 v2w h2))
        have H3 : Hid _ := h2
        clear h2 b2 n2 e2 H2
        go_upto_region 17 with (first | (refine wpList_nb1 (.tmp 71) rfl m rfl rfl ?_) | (refine wpList_nb1 (.tmp 73) rfl m rfl rfl ?_) | (refine wpList_bsb2 (.tmp 72) (.tmp 74) rfl m rfl rfl rfl ?_; intro X3 W3 e3 b3 n3) | (at_builtin; refine wpList_apN rfl (.tmp 70) (.tmp 75) rfl (H3.out.below b3) rfl X3 2 rfl n3 (by decide) (by have := HNM.out; omega) ?_; intro va3 vc3 v3w h3))
        have H4 : Hid _ := h3
        clear h3 b3 n3 e3 H3
        go_upto_region 18 with (first | (refine wpList_ak1 (.tmp 78) rfl m rfl rfl ?_) | (refine wpList_bsk1 (.tmp 79) rfl m rfl rfl ?_; intro X4 W4 e4 b4 n4) | (at_builtin; refine wpList_apA rfl (.tmp 77) (.tmp 80) rfl (H4.out.below b4) rfl X4 1 rfl n4 (by decide) (by have := HNM.out; omega) ?_; intro va4 vc4 v4w h4))
        have H5 : Hid _ := h4
        clear h4 b4 n4 e4 H4
        go_upto_region 19 with (first | (refine wpList_ak1 (.tmp 83) rfl m rfl rfl ?_) | (refine wpList_ak1 (.tmp 85) rfl m rfl rfl ?_) | (refine wpList_bsk2 (.tmp 84) (.tmp 86) rfl m rfl rfl rfl ?_; intro X5 W5 e5 b5 n5) | (at_builtin; refine wpList_apA rfl (.tmp 82) (.tmp 87) rfl (H5.out.below b5) rfl X5 2 rfl n5 (by decide) (by have := HNM.out; omega) ?_; intro va5 vc5 v5w h5))
        have H6 : Hid _ := h5
        clear h5 b5 n5 e5 H5
        have hszw := H6.out.ch.size
        have HWI : Hid ((∀ j r, ([((.slice ia nI ic), nI), (.slice va0 (nI + 1) vc0, nI + 1), (.slice va1 (nI + 2) vc1, nI + 2)] : List (Value × Nat))[j]? = some r → RwOk v5w 3 1 (pm (L + j)) r) ∧ ∀ r, r ∈ ([((.slice ia nI ic), nI), (.slice va0 (nI + 1) vc0, nI + 1), (.slice va1 (nI + 2) vc1, nI + 2)] : List (Value × Nat)) → ∀ q, r.1.ownBlock = some q → (Value.slice ia nI ic).ownBlock = some q ∨ w.heap.size ≤ q) := by
          have hf := RwOk.fy H6.out.I rfl HDI.out.2
          have h1 := hf.2 (.slice va0 (nI + 1) vc0, 1) (by simp)
          have h2 := hf.2 (.slice va1 (nI + 2) vc1, 2) (by simp)
          refine ⟨fun j r hj => ?_, fun r hr q hq => ?_⟩
          · match j, hj with
            | 0, hj => simp at hj; subst hj; rw [Nat.add_zero, ← HM.out.1]; exact hf.1
            | 1, hj => simp at hj; subst hj; rw [← HM.out.2.1]; exact h1
            | 2, hj => simp at hj; subst hj; rw [← HM.out.2.2]; exact h2
            | j + 3, hj => simp at hj
          · simp only [List.mem_cons, List.not_mem_nil, or_false] at hr
            rcases hr with rfl | rfl | rfl
            · exact .inl hq
            · exact H6.out.fI (.slice va0 (nI + 1) vc0, 1) (by simp) q hq
            · exact H6.out.fI (.slice va1 (nI + 2) vc1, 2) (by simp) q hq
        have HWN : Hid ((∀ j r, ([((.slice na nN nc), nN), (.slice va2 (nN + 1) vc2, nN + 1), (.slice va3 (nN + 2) vc3, nN + 2)] : List (Value × Nat))[j]? = some r → RwOk v5w 48 28 (pm (L + j)) r) ∧ ∀ r, r ∈ ([((.slice na nN nc), nN), (.slice va2 (nN + 1) vc2, nN + 1), (.slice va3 (nN + 2) vc3, nN + 2)] : List (Value × Nat)) → ∀ q, r.1.ownBlock = some q → (Value.slice na nN nc).ownBlock = some q ∨ w.heap.size ≤ q) := by
          have hf := RwOk.fy H6.out.N rfl HDN.out.2
          have h1 := hf.2 (.slice va2 (nN + 1) vc2, 1) (by simp)
          have h2 := hf.2 (.slice va3 (nN + 2) vc3, 2) (by simp)
          refine ⟨fun j r hj => ?_, fun r hr q hq => ?_⟩
          · match j, hj with
            | 0, hj => simp at hj; subst hj; rw [Nat.add_zero, ← HM.out.1]; exact hf.1
            | 1, hj => simp at hj; subst hj; rw [← HM.out.2.1]; exact h1
            | 2, hj => simp at hj; subst hj; rw [← HM.out.2.2]; exact h2
            | j + 3, hj => simp at hj
          · simp only [List.mem_cons, List.not_mem_nil, or_false] at hr
            rcases hr with rfl | rfl | rfl
            · exact .inl hq
            · exact H6.out.fN (.slice va2 (nN + 1) vc2, 1) (by simp) q hq
            · exact H6.out.fN (.slice va3 (nN + 2) vc3, 2) (by simp) q hq
        have HWA : Hid ((∀ j r, ([((.slice aa nA ac), nA), (.slice va4 (nA + 1) vc4, nA + 1), (.slice va5 (nA + 2) vc5, nA + 2)] : List (Value × Nat))[j]? = some r → RwOk v5w 114 25 (pm (L + j)) r) ∧ ∀ r, r ∈ ([((.slice aa nA ac), nA), (.slice va4 (nA + 1) vc4, nA + 1), (.slice va5 (nA + 2) vc5, nA + 2)] : List (Value × Nat)) → ∀ q, r.1.ownBlock = some q → (Value.slice aa nA ac).ownBlock = some q ∨ w.heap.size ≤ q) := by
          have hf := RwOk.fy H6.out.A rfl HDA.out.2
          have h1 := hf.2 (.slice va4 (nA + 1) vc4, 1) (by simp)
          have h2 := hf.2 (.slice va5 (nA + 2) vc5, 2) (by simp)
          refine ⟨fun j r hj => ?_, fun r hr q hq => ?_⟩
          · match j, hj with
            | 0, hj => simp at hj; subst hj; rw [Nat.add_zero, ← HM.out.1]; exact hf.1
            | 1, hj => simp at hj; subst hj; rw [← HM.out.2.1]; exact h1
            | 2, hj => simp at hj; subst hj; rw [← HM.out.2.2]; exact h2
            | j + 3, hj => simp at hj
          · simp only [List.mem_cons, List.not_mem_nil, or_false] at hr
            rcases hr with rfl | rfl | rfl
            · exact .inl hq
            · exact H6.out.fA (.slice va4 (nA + 1) vc4, 1) (by simp) q hq
            · exact H6.out.fA (.slice va5 (nA + 2) vc5, 2) (by simp) q hq
        have HX0 : Hid (HdS w BK b (fun q => (Value.slice ia nI ic).ownBlock = some q ∨ (Value.slice na nN nc).ownBlock = some q ∨ (Value.slice aa nA ac).ownBlock = some q) L [((.slice ia nI ic), nI), (.slice va0 (nI + 1) vc0, nI + 1), (.slice va1 (nI + 2) vc1, nI + 2)] [((.slice na nN nc), nN), (.slice va2 (nN + 1) vc2, nN + 1), (.slice va3 (nN + 2) vc3, nN + 2)] [((.slice aa nA ac), nA), (.slice va4 (nA + 1) vc4, nA + 1), (.slice va5 (nA + 2) vc5, nA + 2)] v5w b ∧ b.I.length = L ∧ b.N.length = L ∧ b.A.length = L ∧ L ≤ 100000) := ⟨⟨H6.out.bk, H6.out.ch.mono (fun _ _ e => .inr e), fun _ e => .inl e, HB.out.1.lt BK (.inl rfl), fun e => HB.out.2.2.2 BK e (.inl rfl), HWI.out.1, HWN.out.1, HWA.out.1, fun r hr q hq => (HWI.out.2 r hr q hq).imp (fun e => .inl e) id, fun r hr q hq => (HWN.out.2 r hr q hq).imp (fun e => .inr (.inl e)) id, fun r hr q hq => (HWA.out.2 r hr q hq).imp (fun e => .inr (.inr e)) id⟩, HB.out.2.2.1, HB.out.2.1.1.trans HB.out.2.2.1, HB.out.2.1.2.trans HB.out.2.2.1, HLB.out⟩
        clear hszw H6 HWI HWN HWA HDI HDN HDA
        obtain ⟨haI, hcI, hvI⟩ := owns_shape HX0.out.1.bk.oI
        have HVI : Hid (b.hI = .slice haI L hcI) := by show _ = _; rw [hvI, HX0.out.2.1]
        have clI : v5w.cell? ⟨BK, 0, none⟩ = some (.slice haI L hcI) := by rw [← HVI.out]; exact HX0.out.1.bk.c0
        clear hvI
        go_upto_region 20 with (first | (refine wpList_bs3I (.tmp 94) (.tmp 95) (.tmp 96) rfl _ _ _ _ _ _ _ _ _ rfl rfl rfl rfl ?_; intro YI ZI gI) | (at_builtin; refine wpList_hdI rfl (.tmp 93) (.tmp 97) rfl (HX0.out.1.below gI.out.1) haI hcI HVI.out HX0.out.2.1 rfl YI rfl rfl gI.out.2 (by intro r hr; simp only [List.mem_cons, List.not_mem_nil, or_false] at hr; rcases hr with rfl | rfl | rfl <;> rfl) (by have := HX0.out.2.2.2.2; omega) ?_; intro uaI ucI WI csI fsI HYI))
        obtain ⟨b1, y1, y2, y3, y4, y5, y6⟩ := HYI.out
        obtain ⟨W1, hW1⟩ : ∃ x, x = WI.setCell ⟨BK, 0, none⟩ (.slice uaI (L + 3) ucI) := ⟨_, rfl⟩
        rw [← hW1] at y1 ⊢
        have HX1 : Hid (HdS w BK b (fun q => (Value.slice ia nI ic).ownBlock = some q ∨ (Value.slice na nN nc).ownBlock = some q ∨ (Value.slice aa nA ac).ownBlock = some q) L [((.slice ia nI ic), nI), (.slice va0 (nI + 1) vc0, nI + 1), (.slice va1 (nI + 2) vc1, nI + 2)] [((.slice na nN nc), nN), (.slice va2 (nN + 1) vc2, nN + 1), (.slice va3 (nN + 2) vc3, nN + 2)] [((.slice aa nA ac), nA), (.slice va4 (nA + 1) vc4, nA + 1), (.slice va5 (nA + 2) vc5, nA + 2)] W1 b1 ∧ b1.I.length = L + 3 ∧ b1.N.length = L ∧ b1.A.length = L ∧ L ≤ 100000) := ⟨y1, y2, (by rw [y4]; exact HX0.out.2.2.1), (by rw [y6]; exact HX0.out.2.2.2.1), HX0.out.2.2.2.2⟩
        clear y1 y2 y3 y4 y5 y6 HYI hW1 HX0 HVI clI gI csI fsI
        obtain ⟨haN, hcN, hvN⟩ := owns_shape HX1.out.1.bk.oN
        have HVN : Hid (b1.hN = .slice haN L hcN) := by show _ = _; rw [hvN, HX1.out.2.2.1]
        have clN : W1.cell? ⟨BK, 1, none⟩ = some (.slice haN L hcN) := by rw [← HVN.out]; exact HX1.out.1.bk.c1
        clear hvN
        go_upto_region 21 with (first | (refine wpList_bs3N (.tmp 106) (.tmp 107) (.tmp 108) rfl _ _ _ _ _ _ _ _ _ rfl rfl rfl rfl ?_; intro YN ZN gN) | (at_builtin; refine wpList_hdN rfl (.tmp 105) (.tmp 109) rfl (HX1.out.1.below gN.out.1) haN hcN HVN.out HX1.out.2.2.1 rfl YN rfl rfl gN.out.2 (by intro r hr; simp only [List.mem_cons, List.not_mem_nil, or_false] at hr; rcases hr with rfl | rfl | rfl <;> rfl) (by have := HX1.out.2.2.2.2; omega) ?_; intro uaN ucN WN csN fsN HYN))
        obtain ⟨b2, y1, y2, y3, y4, y5, y6⟩ := HYN.out
        obtain ⟨W2, hW2⟩ : ∃ x, x = WN.setCell ⟨BK, 1, none⟩ (.slice uaN (L + 3) ucN) := ⟨_, rfl⟩
        rw [← hW2] at y1 ⊢
        have HX2 : Hid (HdS w BK b (fun q => (Value.slice ia nI ic).ownBlock = some q ∨ (Value.slice na nN nc).ownBlock = some q ∨ (Value.slice aa nA ac).ownBlock = some q) L [((.slice ia nI ic), nI), (.slice va0 (nI + 1) vc0, nI + 1), (.slice va1 (nI + 2) vc1, nI + 2)] [((.slice na nN nc), nN), (.slice va2 (nN + 1) vc2, nN + 1), (.slice va3 (nN + 2) vc3, nN + 2)] [((.slice aa nA ac), nA), (.slice va4 (nA + 1) vc4, nA + 1), (.slice va5 (nA + 2) vc5, nA + 2)] W2 b2 ∧ b2.I.length = L + 3 ∧ b2.N.length = L + 3 ∧ b2.A.length = L ∧ L ≤ 100000) := ⟨y1, (by rw [y4]; exact HX1.out.2.1), y2, (by rw [y6]; exact HX1.out.2.2.2.1), HX1.out.2.2.2.2⟩
        clear y1 y2 y3 y4 y5 y6 HYN hW2 HX1 HVN clN gN csN fsN
        obtain ⟨haA, hcA, hvA⟩ := owns_shape HX2.out.1.bk.oA
        have HVA : Hid (b2.hA = .slice haA L hcA) := by show _ = _; rw [hvA, HX2.out.2.2.2.1]
        have clA : W2.cell? ⟨BK, 2, none⟩ = some (.slice haA L hcA) := by rw [← HVA.out]; exact HX2.out.1.bk.c2
        clear hvA
        go_wp2_with (first | (refine wpList_bs3A (.tmp 118) (.tmp 119) (.tmp 120) rfl _ _ _ _ _ _ _ _ _ rfl rfl rfl rfl ?_; intro YA ZA gA) | (at_builtin; refine wpList_hdA rfl (.tmp 117) (.tmp 121) rfl (HX2.out.1.below gA.out.1) haA hcA HVA.out HX2.out.2.2.2.1 rfl YA rfl rfl gA.out.2 (by intro r hr; simp only [List.mem_cons, List.not_mem_nil, or_false] at hr; rcases hr with rfl | rfl | rfl <;> rfl) (by have := HX2.out.2.2.2.2; omega) ?_; intro uaA ucA WA csA fsA HYA))
        obtain ⟨b3, y1, y2, y3, y4, y5, y6⟩ := HYA.out
        obtain ⟨W3, hW3⟩ : ∃ x, x = WA.setCell ⟨BK, 2, none⟩ (.slice uaA (L + 3) ucA) := ⟨_, rfl⟩
        rw [← hW3] at y1 ⊢
        have HX3 : Hid (HdS w BK b (fun q => (Value.slice ia nI ic).ownBlock = some q ∨ (Value.slice na nN nc).ownBlock = some q ∨ (Value.slice aa nA ac).ownBlock = some q) L [((.slice ia nI ic), nI), (.slice va0 (nI + 1) vc0, nI + 1), (.slice va1 (nI + 2) vc1, nI + 2)] [((.slice na nN nc), nN), (.slice va2 (nN + 1) vc2, nN + 1), (.slice va3 (nN + 2) vc3, nN + 2)] [((.slice aa nA ac), nA), (.slice va4 (nA + 1) vc4, nA + 1), (.slice va5 (nA + 2) vc5, nA + 2)] W3 b3 ∧ b3.I.length = L + 3 ∧ b3.N.length = L + 3 ∧ b3.A.length = L + 3 ∧ L ≤ 100000) := ⟨y1, (by rw [y4]; exact HX2.out.2.1), (by rw [y6]; exact HX2.out.2.2.1), y2, HX2.out.2.2.2.2⟩
        clear y1 y2 y3 y4 y5 y6 HYA hW3 HX2 HVA clA gA csA fsA
        (try go_wp2)
        go_end0
        exact ⟨rfl, b3, HX3.out.1.bk, ⟨HX3.out.2.2.1.trans HX3.out.2.1.symm, HX3.out.2.2.2.1.trans HX3.out.2.1.symm, by rw [HX3.out.2.1, HB.out.2.2.1]⟩, HX3.out.1.nb, HX3.out.1.ch⟩
end No
end Go.Proofs.Ytnpipngiehohgaa
