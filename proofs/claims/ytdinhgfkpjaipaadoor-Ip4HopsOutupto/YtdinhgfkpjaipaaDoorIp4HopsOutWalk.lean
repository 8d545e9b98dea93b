/-
  Ip4HopsOut: the walk.
-/
import Derived.Test.YtdinhgfkpjaipaaDoorI4HopP
import Derived.Test.YtdinhgfkpjaipaaDoorI4Open
namespace Go.Proofs.YtdinhgfkpjaipaaDoor
open Go.RowKit
open I4 (H4)

theorem canon_ser' (h : H4) (m : I4.May h) : canon (I4.ser h) = true := by
  unfold canon
  rw [decide_eq_true ((I4.pE_zero _).2 (I4.ser_taken h m)), decide_eq_true (I4.ser_eqv (I4.ser_eq h m))]
  rfl
/-- k hops on -/
def hk (h : H4) (k : Nat) : H4 := { h with ttl := h.ttl - k }
theorem hk_zero (h : H4) : hk h 0 = h := by simp [hk]
theorem hk_may (h : H4) (m : I4.May h) (k : Nat) (hkk : (k : Int) ≤ h.ttl) : I4.May (hk h k) := by
  obtain ⟨a, b, c, d, e, f, g, o, t, fr⟩ := m
  exact ⟨a, b, c, by show 0 ≤ h.ttl - k ∧ h.ttl - k ≤ 255; omega, e, f, g, o, t, fr⟩
theorem hk_ttl (h : H4) (m : I4.May h) (k t : Nat) (ht : h.ttl = (t : Int)) : (I4.ser (hk h k)).getD 8 0 = t - k := by
  have := m.ttl
  rw [I4.ser_at _ 8 (by omega)]
  show (h.ttl - (k : Int)).toNat = t - k
  omega
theorem hk_hop (h : H4) (m : I4.May h) (k t : Nat) (ht : h.ttl = (t : Int)) (hlt : k + 2 ≤ t) : hopE (I4.ser (hk h k)) = 0 ∧ hopL (I4.ser (hk h k)) = I4.ser (hk h (k + 1)) := by
  have mk := hk_may h m k (by omega)
  have e0 : I4.pE (I4.ser (hk h k)) = 0 := (I4.pE_zero _).2 (I4.ser_taken _ mk)
  have e1 : hopE (I4.ser (hk h k)) = 0 := by
    unfold hopE
    rw [e0, if_neg (by simp), hk_ttl h m k t ht, if_neg (by omega)]
  refine ⟨e1, ?_⟩
  unfold hopL
  rw [e1, if_pos rfl, I4.hop_ser _ mk (by show 2 ≤ h.ttl - (k : Int); omega)]
  congr 1
  show ({ h with ttl := h.ttl - (k : Int) - 1 } : H4) = { h with ttl := h.ttl - ((k + 1 : Nat) : Int) }
  congr 1
  omega
theorem hk_last (h : H4) (m : I4.May h) (k t : Nat) (ht : h.ttl = (t : Int)) (hle : k ≤ t) (hlt : t < k + 2) : hopE (I4.ser (hk h k)) = 67 ∧ hopL (I4.ser (hk h k)) = I4.ser (hk h k) := by
  have mk := hk_may h m k (by omega)
  have e0 : I4.pE (I4.ser (hk h k)) = 0 := (I4.pE_zero _).2 (I4.ser_taken _ mk)
  have e1 : hopE (I4.ser (hk h k)) = 67 := by
    unfold hopE
    rw [e0, if_neg (by simp), hk_ttl h m k t ht, if_pos (by omega)]
  refine ⟨e1, ?_⟩
  unfold hopL
  rw [e1, if_neg (by decide)]
/-- the state of the loop -/
structure HoS (w : World) (h : H4) (O : Nat) (OL DL : Value) (g T : Nat) (k t : Nat) (wr : World) : Prop where
  own : wr.ownsRow w.heap.size 5 1 (.slice (some ⟨g, 0, none⟩) T T) T ((toI (I4.ser (hk h k))).map (Value.int .u8))
  bel : Below w.heap.size w wr
  box : H4At wr O h OL DL
  ne : O ≠ g
  kt : k ≤ t
  k1 : k = 0 ∨ k + 1 ≤ t
theorem HoS.ch {w : World} {h : H4} {O : Nat} {OL DL : Value} {g T k t k' : Nat} {wr w' : World} (s : HoS w h O OL DL g T k t wr) (c : Ch (fun q => q = g) wr w') (o : w'.ownsRow w.heap.size 5 1 (.slice (some ⟨g, 0, none⟩) T T) T ((toI (I4.ser (hk h k'))).map (Value.int .u8))) (h1 : k' ≤ t) (h2 : k' = 0 ∨ k' + 1 ≤ t) : HoS w h O OL DL g T k' t w' :=
  ⟨o, s.bel.trans (c.below (fun q e => by have e' : q = g := e; have := (s.own.lt g rfl).1; omega) s.bel.size), s.box.ch c s.ne, s.ne, h1, h2⟩
set_option maxHeartbeats 6400000 in
set_option maxRecDepth 100000 in
theorem ip4HopsOut.walk (w : World) (hw : Wid w) (h : H4) (la : Option Addr) (ln lc : Nat) (os : List OpV) (da : Option Addr) (n c : Nat) (k : H4Ok w h la ln lc os da n c) :
    Calls Tryd.prog 6 #[.agg (h4C h (.slice la ln lc) (.slice da n c))] w fun e w' => e = .returned (.bool true) ∧ Below w.heap.size w w' := by
  obtain ⟨W, hW⟩ : ∃ W, W = w.alloc (.cells (h4C h (.slice la ln lc) (.slice da n c)) 28) := ⟨_, rfl⟩
  obtain ⟨O, hO⟩ : ∃ O, O = w.heap.size := ⟨_, rfl⟩
  have bel : Below w.heap.size w W := by rw [hW]; exact (Below.refl _ _).alloc (Nat.le_refl _) _
  have HB : Hid (H4At W O h (.slice la ln lc) (.slice da n c)) := by rw [hW, hO]; exact h4At_new _ _ _ _
  obtain ⟨C, hC⟩ : ∃ C, C = h4C h (.slice la ln lc) (.slice da n c) := ⟨_, rfl⟩
  have HW : Hid (w.alloc (.cells C 28) = W) := by rw [hC]; exact hW.symm
  have HO : Hid (w.heap.size = O) := hO.symm
  rw [← hC]
  have HK : Hid (H4Ok w h la ln lc os da n c) := k
  have HWID : Hid (∀ A, Below w.heap.size w A → Wid A) := fun A hA => hw.old hA
  have QS : Hid _ := started_any W (hw.old bel)
  obtain ⟨R, hR⟩ : ∃ R, R = I4.chk h := ⟨_, rfl⟩
  have HR : Hid (R = I4.chk h) := hR
  clear hW hC hO k hw hR
  go_enter Tryd.func6, Tryd.ntmps6
  go_upto_region 1 with fail
  rw [HW.out, HO.out]
  go_wp2_with fail
  refine Calls.mono QS.out ?_
  rintro e w1 ⟨rfl, hb1⟩
  have bel1 := bthen bel hb1
  have HB1 : Hid (H4At w1 O h (.slice la ln lc) (.slice da n c)) := H4At.below HB.out hb1
  have QR : Hid _ := serialise_any h la ln lc os da n c w1 (HWID.out w1 bel1) (HK.out.old bel1)
  rw [← HR.out] at QR
  clear QS hb1 HB HW bel
  go_wp2_with (first | (refine wpList_load_h4 _ rfl O h (.slice la ln lc) (.slice da n c) rfl HB1.out rfl ?_))
  refine Calls.mono QR.out ?_
  rintro e w2 ⟨v, rfl, hb2, hs⟩
  have bel2 := bthen bel1 hb2
  rcases hs with ⟨h0, g, rfl, ho⟩ | ⟨hne, rfl⟩
  case inr =>
    have b1 : ((R : Int) != 0) = true := by rw [HR.out, bne_iff_ne]; omega
    clear hne hb2 HB1 bel1
    go_wp2_with fail
    refine Calls.mono (num_any R w2) ?_
    rintro e w3 ⟨rfl, rfl⟩
    go_wp2
    go_ret
    exact ⟨rfl, bel2⟩
  have hR0 : R = 0 := by rw [HR.out]; exact h0
  subst hR0
  have HM : Hid (I4.May h) := (I4.chk_zero h).1 h0
  obtain ⟨t, ht⟩ : ∃ t : Nat, h.ttl = (t : Int) := ⟨h.ttl.toNat, by have := HM.out.ttl; omega⟩
  have htl : t ≤ 255 := by have := HM.out.ttl; omega
  have HTT : Hid (h.ttl = (t : Int)) := ht
  obtain ⟨T, hT⟩ : ∃ T, T = (I4.ser h).length := ⟨_, rfl⟩
  have HTL : Hid (∀ k, (I4.ser (hk h k)).length = T) := by
    intro k
    rw [hT, I4.ser_len, I4.ser_len]
    rfl
  have hTl : T ≤ 65535 := by have := (I4.ser_taken h HM.out).le; rw [hT]; exact this
  rw [← hT] at ho ⊢
  have HS0 : Hid (HoS w h O (.slice la ln lc) (.slice da n c) g T 0 t w2) := by
    refine ⟨?_, bel2, H4At.below HB1.out hb2, ?_, Nat.zero_le _, .inl rfl⟩
    · rw [hk_zero]; exact owns_mono ho bel1.size
    · have h1 := (ho.lt g rfl).1
      have h2 := HB1.out.lt
      omega
  have H256 : Hid (∀ k, k ≤ t → ∀ x ∈ I4.ser (hk h k), x < 256) := by
    intro k hkk
    exact ser_256 (hk h k) (hk_may h HM.out k (by rw [ht]; omega)) HK.out.sx HK.out.dx (by show ∀ o ∈ h.os, _; rw [HK.out.hos]; exact opts_256 HK.out.opts) HK.out.d256
  have HHOP : Hid (∀ A k, HoS w h O (.slice la ln lc) (.slice da n c) g T k t A → Calls Tryd.prog 28 #[.slice (some ⟨g, 0, none⟩) T T] A fun e w' => e = .returned (.int .i64 (hopE (I4.ser (hk h k)) : Nat)) ∧ Ch (fun q => q = g) A w' ∧ w'.ownsRow w.heap.size 5 1 (.slice (some ⟨g, 0, none⟩) T T) T ((toI (hopL (I4.ser (hk h k)))).map (Value.int .u8))) := by
    intro A k hs
    have := hopP_any g T T T T w.heap.size (I4.ser (hk h k)) [] A (HTL.out k) (by rw [List.append_nil]; exact HTL.out k) (HWID.out A hs.bel) (by rw [List.append_nil]; exact hs.own) (H256.out k hs.kt) (Nat.le_refl _) (by omega)
    simp only [List.append_nil] at this
    exact this
  clear h0 ho hT HR ht hb2 HB1 bel1 bel2 QR
  go_wp2_with fail
  refine Calls.mono (num_any 0 w2) ?_
  rintro e w3 ⟨rfl, rfl⟩
  go_wp2
  go_loopw [6] (fun ix wr => ∃ k : Nat, ix = .int .i64 k ∧ Hid (HoS w h O (.slice la ln lc) (.slice da n c) g T k t wr)) (fun ix _ => 256 - (intOf ix).toNat)
  case atStart => exact ⟨0, rfl, HS0⟩
  case round =>
    obtain ⟨k, rfl, HS⟩ := hrel
    have hkt := HS.out.kt
    have hk1 := HS.out.k1
    have hk256 : (k : Int) < 256 := by omega
    have QH : Hid _ := HHOP.out wr k HS.out
    have wk : IntKind.i64.wrap ((k : Int) + 1) = (k : Int) + 1 := by rw [IntKind.wrap_i64]; omega
    by_cases hgo : k + 2 ≤ t
    · obtain ⟨e1, e2⟩ := hk_hop h HM.out k t HTT.out hgo
      rw [e1, e2] at QH
      have hn4 : k < 256 := by omega
      clear e1 e2 hk1
      go_wp2_with fail
      refine Calls.mono QH.out ?_
      rintro e w4 ⟨rfl, hc4, ho4⟩
      have HS4 : Hid (HoS w h O (.slice la ln lc) (.slice da n c) g T (k + 1) t w4) := HS.out.ch hc4 ho4 (by omega) (.inr (by omega))
      clear hc4 ho4 QH
      go_wp2_with fail
      refine Calls.mono (num_any 0 w4) ?_
      rintro e w5 ⟨rfl, rfl⟩
      go_wp2
      go_roundw
      case rel => exact ⟨k + 1, by go_num, HS4⟩
      case measure => simp [intOf]; omega
    · obtain ⟨e1, e2⟩ := hk_last h HM.out k t HTT.out hkt (by omega)
      rw [e1, e2] at QH
      have HQ2 : Hid (∀ A, HoS w h O (.slice la ln lc) (.slice da n c) g T k t A → Calls Tryd.prog 28 #[.slice (some ⟨g, 0, none⟩) T T] A fun e w' => e = .returned (.int .i64 67) ∧ Ch (fun q => q = g) A w' ∧ w'.ownsRow w.heap.size 5 1 (.slice (some ⟨g, 0, none⟩) T T) T ((toI (I4.ser (hk h k))).map (Value.int .u8))) := by
        intro A hA
        have := HHOP.out A k hA
        rw [e1, e2] at this
        exact this
      clear e1 e2
      go_wp2_with fail
      refine Calls.mono QH.out ?_
      rintro e w4 ⟨rfl, hc4, ho4⟩
      have HS4 : Hid (HoS w h O (.slice la ln lc) (.slice da n c) g T k t w4) := HS.out.ch hc4 ho4 hkt HS.out.k1
      have g5 : w4.cell? ⟨O, 5, none⟩ = some (.int .i64 (t : Int)) := by rw [← HTT.out]; exact HS4.out.box.c5
      have wt : IntKind.i64.wrap ((t : Int) - 1) = (t : Int) - 1 := by rw [IntKind.wrap_i64]; omega
      have HCANON : Hid (canon (I4.ser (hk h k)) = true) := canon_ser' (hk h k) (hk_may h HM.out k (by rw [HTT.out]; omega))
      clear hc4 ho4 QH
      go_wp2_with fail
      refine Calls.mono (num_any 67 w4) ?_
      rintro e w5 ⟨rfl, rfl⟩
      by_cases ht0 : t = 0
      · have z0 : (t : Int) - 1 < 0 := by omega
        have zk : k = 0 := by omega
        subst zk
        clear hk1 ht0
        go_wp2_with fail
        refine Calls.mono (HQ2.out w4 HS4.out) ?_
        rintro e w5 ⟨rfl, hc5, ho5⟩
        have HS5 : Hid (HoS w h O (.slice la ln lc) (.slice da n c) g T 0 t w5) := HS4.out.ch hc5 ho5 hkt (.inl rfl)
        clear hc5 ho5
        go_wp2_with fail
        refine Calls.mono (num_any 67 w5) ?_
        rintro e w6 ⟨rfl, rfl⟩
        have QC : Hid _ := canonical_any (some ⟨g, 0, none⟩) T T (I4.ser (hk h 0)) w5 (HTL.out 0) (HWID.out w5 HS5.out.bel) (by obtain ⟨a', c', e1, hsg, _⟩ := owns_seg HS5.out.own; simp only [Value.slice.injEq, true_and] at e1; rw [e1.1]; exact hsg) (H256.out 0 hkt) (Nat.le_refl _) (by omega)
        rw [HCANON.out] at QC
        go_wp2_with fail
        refine Calls.mono QC.out ?_
        rintro e w6 ⟨rfl, hb6⟩
        have bel6 := bthen HS5.out.bel hb6
        go_wp2
        go_ret
        exact ⟨rfl, bel6⟩
      · have z0 : ¬ (t : Int) - 1 < 0 := by omega
        have zk : (t : Int) - 1 = (k : Int) := by omega
        have ekk : ((k : Int) == (t : Int) - 1) = true := by rw [zk]; simp
        have HZK : Hid ((t : Int) - 1 = (k : Int)) := zk
        clear hk1 ht0 zk
        go_wp2_with fail
        refine Calls.mono (HQ2.out w4 HS4.out) ?_
        rintro e w5 ⟨rfl, hc5, ho5⟩
        have HS5 : Hid (HoS w h O (.slice la ln lc) (.slice da n c) g T k t w5) := HS4.out.ch hc5 ho5 hkt HS4.out.k1
        clear hc5 ho5
        go_wp2_with fail
        refine Calls.mono (num_any 67 w5) ?_
        rintro e w6 ⟨rfl, rfl⟩
        have QC : Hid _ := canonical_any (some ⟨g, 0, none⟩) T T (I4.ser (hk h k)) w5 (HTL.out k) (HWID.out w5 HS5.out.bel) (by obtain ⟨a', c', e1, hsg, _⟩ := owns_seg HS5.out.own; simp only [Value.slice.injEq, true_and] at e1; rw [e1.1]; exact hsg) (H256.out k hkt) (Nat.le_refl _) (by omega)
        rw [HCANON.out] at QC
        go_wp2_with fail
        refine Calls.mono QC.out ?_
        rintro e w6 ⟨rfl, hb6⟩
        have bel6 := bthen HS5.out.bel hb6
        go_wp2
        go_ret
        exact ⟨rfl, bel6⟩
end Go.Proofs.YtdinhgfkpjaipaaDoor
