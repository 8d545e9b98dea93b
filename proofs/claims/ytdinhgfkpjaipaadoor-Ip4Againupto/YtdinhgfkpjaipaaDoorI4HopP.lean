/-
  Hop.
-/
import Derived.Test.YtdinhgfkpjaipaaDoorI4Start2
import Derived.Test.YtdinhgfkpjaipaaDoorI4Hop
namespace Go.Proofs.YtdinhgfkpjaipaaDoor
open Go.RowKit
open I4 (H4)

/-- what Hop answers, what it leaves -/
def hopE (bs : List Nat) : Nat := if I4.pE bs ≠ 0 then I4.pE bs else if bs.getD 8 0 < 2 then 67 else 0
def hopL (bs : List Nat) : List Nat := if hopE bs = 0 then I4.hop bs else bs
theorem num2 (x y : Nat) : M.numB [x, y] = x * 256 + y := by simp [M.numB]
theorem take2 (bs : List Nat) (i : Nat) (h : i + 2 ≤ bs.length) : (bs.drop i).take 2 = [bs.getD i 0, bs.getD (i + 1) 0] := by
  rw [List.drop_eq_getElem_cons (by omega), List.drop_eq_getElem_cons (by omega), List.take_succ_cons, List.take_succ_cons, List.take_zero]
  simp [List.getD, show i < bs.length by omega, show i + 1 < bs.length by omega]
theorem set_app (a b : List Nat) (i x : Nat) (h : i < a.length) : (a ++ b).set i x = a.set i x ++ b := by rw [List.set_append_left _ _ h]
set_option maxHeartbeats 3200000 in
set_option maxRecDepth 100000 in
theorem hopP_any (g cap n c N B : Nat) (bs r : List Nat) (w : World) (hn : bs.length = n) (hN : (bs ++ r).length = N) (hw : Wid w) (ho : w.ownsRow B 5 1 (.slice (some ⟨g, 0, none⟩) N c) N ((toI (bs ++ r)).map (Value.int .u8))) (h256 : ∀ x ∈ bs, x < 256) (h2 : n ≤ cap) (h3 : cap ≤ 9223372036854775807) :
    Calls Tryd.prog 28 #[.slice (some ⟨g, 0, none⟩) n cap] w fun e w' => e = .returned (.int .i64 (hopE bs : Nat)) ∧ Ch (fun q => q = g) w w' ∧ w'.ownsRow B 5 1 (.slice (some ⟨g, 0, none⟩) N c) N ((toI (hopL bs ++ r)).map (Value.int .u8)) := by
  have hseg : Seg .u8 w (some ⟨g, 0, none⟩) (toI bs) := by
    obtain ⟨a', c', e1, hsg, _⟩ := owns_seg ho
    simp only [Value.slice.injEq, true_and] at e1
    rw [← e1.1] at hsg
    have := hsg.part0 n (by rw [toI_len]; simp; omega)
    rw [toI_take, List.take_append_of_le_length (by omega), List.take_of_length_le (by omega)] at this
    exact this
  have glt : g < w.heap.size := (ho.lt g rfl).2
  have HOW : Hid (∀ A, Below w.heap.size w A → A.ownsRow B 5 1 (.slice (some ⟨g, 0, none⟩) N c) N ((toI (bs ++ r)).map (Value.int .u8))) := fun A hA => (Ch.ofBelow (S := fun _ => False) hA).owns ho (fun _ _ => id)
  have HN : Hid (bs.length = n) := hn
  have HNN : Hid ((bs ++ r).length = N) := hN
  have H256 : Hid (∀ x ∈ bs, x < 256) := h256
  have HSEG : Hid (∀ A, Below w.heap.size w A → Seg .u8 A (some ⟨g, 0, none⟩) (toI bs)) := fun A hA => hseg.old hA
  have QP : Hid _ := parse_two (some ⟨g, 0, none⟩) cap n bs w hn hw hseg h256 h2 h3
  have HCAP : Hid (n ≤ cap ∧ cap ≤ 9223372036854775807) := ⟨h2, h3⟩
  have HG : Hid (g < w.heap.size) := glt
  obtain ⟨E, hE⟩ : ∃ E, E = I4.pE bs := ⟨_, rfl⟩
  rw [← hE] at QP
  have HE : Hid (E = I4.pE bs) := hE
  obtain ⟨Q, hQ⟩ : ∃ Q, Q = hopE bs := ⟨_, rfl⟩
  rw [← hQ]
  have HQ : Hid (Q = hopE bs) := hQ
  obtain ⟨LL, hLL⟩ : ∃ LL, LL = hopL bs := ⟨_, rfl⟩
  rw [← hLL]
  have HLL : Hid (LL = hopL bs) := hLL
  clear hn hN hw ho h256 h2 h3 hseg glt hE hQ hLL
  go_enter Tryd.func28, Tryd.ntmps28
  go_wp2_with fail
  refine Calls.mono QP.out ?_
  rintro e w1 ⟨C, rfl, hb1, hres⟩
  clear QP
  rcases hres with ⟨hne, rfl⟩ | ⟨h0, hrd⟩
  · have b1 : ((E : Int) != 0) = true := by rw [bne_iff_ne]; omega
    have HF : Hid (Q = E) := by show _ = _; rw [HQ.out, hopE, ← HE.out, if_pos hne]
    have HL : Hid (LL = bs) := by show _ = _; rw [HLL.out, hopL, ← HQ.out, HF.out, if_neg hne]
    clear hne
    go_wp2_with (first | (refine wpList_alloc_h4 rfl rfl ?_) | (refine wpList_store_h4 (.tmp 3) (.tmp 14) rfl rfl w1.heap.size h4z h4z nilS nilS nilS nilS rfl rfl rfl rfl (h4At_new _ _ _ _) rfl ?_))
    intro w2 hP2 k2
    have HF2 : Hid (Below w.heap.size w w2) := bthen hb1 (stored_below k2)
    clear hP2 k2
    go_wp2
    go_ret
    exact ⟨by rw [HF.out]; rfl, Ch.ofBelow HF2.out, by rw [HL.out]; exact HOW.out _ HF2.out⟩
  · subst h0
    obtain ⟨la, K, lc, os, rfl, hok, _⟩ := hrd.ex
    have tk := hrd.tk
    have hl20 : 20 ≤ n := by have h1 := tk.hd; have h2 := tk.hd2; have h3 := tk.tl; have h4 := HN.out; omega
    have HTTL : Hid ((I4.pH bs).ttl = ((bs.getD 8 0 : Nat) : Int)) := rfl
    obtain ⟨dA, hdA⟩ : ∃ dA, dA = cutA (some ⟨g, 0, none⟩) (I4.hdL bs) (I4.tlL bs - I4.hdL bs) := ⟨_, rfl⟩
    obtain ⟨dn, hdn⟩ : ∃ dn, dn = I4.tlL bs - I4.hdL bs := ⟨_, rfl⟩
    rw [← hdA, ← hdn]
    obtain ⟨P, hP⟩ : ∃ P, P = I4.pH bs := ⟨_, rfl⟩
    rw [← hP] at HTTL ⊢
    obtain ⟨b8, hb8⟩ : ∃ x, x = bs.getD 8 0 := ⟨_, rfl⟩
    rw [← hb8] at HTTL
    have b8l : b8 < 256 := by rw [hb8]; exact I4.getD_lt bs H256.out 8
    have HB8 : Hid (b8 = bs.getD 8 0) := hb8
    clear hdA hdn hok tk hrd hP hb8
    go_wp2_with (first | (refine wpList_alloc_h4 rfl rfl ?_) | (refine wpList_store_h4 (.tmp 3) (.tmp 14) rfl rfl w1.heap.size h4z P nilS nilS (.slice la K lc) (.slice dA dn dn) rfl rfl rfl rfl (h4At_new _ _ _ _) rfl ?_))
    intro w2 hP2 k2
    have bel2 : Below w.heap.size w w2 := bthen hb1 (stored_below k2)
    have g5 : w2.cell? ⟨w1.heap.size, 5, none⟩ = some (.int .i64 (b8 : Int)) := by rw [← HTTL.out]; exact hP2.c5
    clear hP2 k2 hb1
    by_cases ht : b8 < 2
    · have t1 : (b8 : Int) ≤ 1 := by omega
      have HF : Hid (Q = 67) := by show _ = _; rw [HQ.out, hopE, ← HE.out, if_neg (by simp), if_pos (by rw [← HB8.out]; exact ht)]
      have HL : Hid (LL = bs) := by show _ = _; rw [HLL.out, hopL, ← HQ.out, HF.out, if_neg (by decide)]
      clear ht
      go_wp2
      go_ret
      exact ⟨by rw [HF.out]; rfl, Ch.ofBelow bel2, by rw [HL.out]; exact HOW.out _ bel2⟩
    · have t1 : ¬ (b8 : Int) ≤ 1 := by omega
      have HF : Hid (Q = 0) := by show _ = _; rw [HQ.out, hopE, ← HE.out, if_neg (by simp), if_neg (by rw [← HB8.out]; exact ht)]
      have HL : Hid (LL = I4.hop bs) := by show _ = _; rw [HLL.out, hopL, ← HQ.out, HF.out, if_pos rfl]
      obtain ⟨b9, hb9⟩ : ∃ x, x = bs.getD 9 0 := ⟨_, rfl⟩
      obtain ⟨b10, hb10⟩ : ∃ x, x = bs.getD 10 0 := ⟨_, rfl⟩
      obtain ⟨b11, hb11⟩ : ∃ x, x = bs.getD 11 0 := ⟨_, rfl⟩
      have b9l : b9 < 256 := by rw [hb9]; exact I4.getD_lt bs H256.out 9
      have b10l : b10 < 256 := by rw [hb10]; exact I4.getD_lt bs H256.out 10
      have b11l : b11 < 256 := by rw [hb11]; exact I4.getD_lt bs H256.out 11
      have HU : Hid (∀ A, Below w.heap.size w A → ∀ i, i + 2 ≤ n → Calls Tryd.prog 59 #[.slice (some ⟨g, 0, none⟩) n cap, .int .i64 i, .int .i64 2] A fun e w' => e = .returned (.tuple #[.int .u64 ((bs.getD i 0 * 256 + bs.getD (i + 1) 0 : Nat) : Int), .int .i64 0]) ∧ Below A.heap.size A w') := by
        intro A hA i hi
        have := uint_ok (some ⟨g, 0, none⟩) cap i 2 bs A (HSEG.out A hA) H256.out (by decide) (by decide) (by rw [HN.out]; exact hi) (by rw [HN.out]; exact HCAP.out.1) HCAP.out.2
        rw [take2 bs i (by rw [HN.out]; exact hi), num2, HN.out] at this
        exact this
      have QU1 : Hid _ := HU.out w2 bel2 8 (by omega)
      rw [← HB8.out, ← hb9] at QU1
      obtain ⟨old, hold⟩ : ∃ old, old = b8 * 256 + b9 := ⟨_, rfl⟩
      obtain ⟨chk, hchk⟩ : ∃ chk, chk = b10 * 256 + b11 := ⟨_, rfl⟩
      rw [← hold] at QU1
      have ho1 : 512 ≤ old ∧ old ≤ 65535 := by omega
      obtain ⟨ho1, ho2⟩ := ho1
      have hc1 : chk ≤ 65535 := by omega
      have HU2 : Hid (∀ A, Below w.heap.size w A → Calls Tryd.prog 59 #[.slice (some ⟨g, 0, none⟩) n cap, .int .i64 10, .int .i64 2] A fun e w' => e = .returned (.tuple #[.int .u64 (chk : Int), .int .i64 0]) ∧ Below A.heap.size A w') := by
        intro A hA
        have := HU.out A hA 10 (by omega)
        rw [← hb10, ← hb11, ← hchk] at this
        exact this
      have HB9 : Hid (b9 = bs.getD 9 0) := hb9
      have HB10 : Hid (b10 = bs.getD 10 0) := hb10
      have HB11 : Hid (b11 = bs.getD 11 0) := hb11
      have HOLD : Hid (old = b8 * 256 + b9) := hold
      have HCHK : Hid (chk = b10 * 256 + b11) := hchk
      clear ht hb9 hb10 hb11 hold hchk HU
      go_wp2_with fail
      refine Calls.mono QU1.out ?_
      rintro e w3 ⟨rfl, hb3⟩
      have bel3 := bthen bel2 hb3
      clear QU1 hb3 bel2 g5
      go_wp2_with fail
      refine Calls.mono (HU2.out w3 bel3) ?_
      rintro e w4 ⟨rfl, hb4⟩
      have bel4 := bthen bel3 hb4
      obtain ⟨nw, hnw⟩ : ∃ nw, nw = old - 256 := ⟨_, rfl⟩
      have u1 : IntKind.u64.wrap ((old : Int) - 256) = (nw : Int) := by rw [IntKind.wrap_u64]; omega
      have u2 : IntKind.i64.wrap (chk : Int) = (chk : Int) := by rw [IntKind.wrap_i64]; omega
      have u3 : IntKind.i64.wrap (old : Int) = (old : Int) := by rw [IntKind.wrap_i64]; omega
      have u4 : IntKind.i64.wrap (nw : Int) = (nw : Int) := by rw [IntKind.wrap_i64]; omega
      have QF : Hid _ := fix_any chk old nw w4
      obtain ⟨fx, hfx⟩ : ∃ fx, fx = S.fix1 chk old nw := ⟨_, rfl⟩
      have e1 : fixN chk old nw = (fx : Int) := by
        have w1 : isW (chk : Int) = true := by simp [isW]; omega
        have w2 : isW (old : Int) = true := by simp [isW]; omega
        have w3 : isW (nw : Int) = true := by simp [isW]; omega
        unfold fixN
        rw [w1, w2, w3]
        simp [hfx]
      have e2 : fixE chk old nw = 0 := by
        have w1 : isW (chk : Int) = true := by simp [isW]; omega
        have w2 : isW (old : Int) = true := by simp [isW]; omega
        have w3 : isW (nw : Int) = true := by simp [isW]; omega
        unfold fixE
        rw [w1, w2, w3]
        rfl
      rw [e1, e2] at QF
      have hfl : fx ≤ 65535 := by rw [hfx]; exact S.fix1_le _ _ _
      have HFX : Hid (fx = I4.hopF bs) := by
        show _ = _
        rw [hfx, I4.hopF, ← HB8.out, ← HB9.out, ← HB10.out, ← HB11.out, hnw, HCHK.out, HOLD.out]
        congr 1 <;> omega
      have HNW : Hid (nw / 256 = b8 - 1) := by show _ = _; rw [hnw, HOLD.out]; omega
      have hnl : nw ≤ 65535 := by omega
      clear hb4 bel3 e1 e2 hfx hnw HU2
      go_wp2_with fail
      (try rw [u1])
      refine Calls.mono QF.out ?_
      rintro e w5 ⟨rfl, rfl⟩
      have hN20 : n ≤ N := by have h1 := HNN.out; have h2 := HN.out; rw [List.length_append] at h1; omega
      have HO5 : Hid (w5.ownsRow B 5 1 (.slice (some ⟨g, 0, none⟩) N c) N ((toI (bs ++ r)).map (Value.int .u8))) := HOW.out w5 bel4
      have cel : ∀ i, i < n → ∃ v, w5.cell? ⟨g, i, none⟩ = some v := fun i hi => by
        have := HO5.out.cellAt i (by omega)
        rw [List.getElem?_eq_getElem (by rw [List.length_map, toI_len, HNN.out]; omega)] at this
        exact ⟨_, this⟩
      obtain ⟨v8, d8⟩ := cel 8 (by omega)
      obtain ⟨v10, d10⟩ := cel 10 (by omega)
      obtain ⟨v11, d11⟩ := cel 11 (by omega)
      have f8 : w5.frozen? ⟨g, 8, none⟩ = false := HO5.out.frozenAt 8
      have f10 : w5.frozen? ⟨g, 10, none⟩ = false := HO5.out.frozenAt 10
      have f11 : w5.frozen? ⟨g, 11, none⟩ = false := HO5.out.frozenAt 11
      have n8 : (8 : Int) < (n : Int) := by omega
      have n10 : (10 : Int) < (n : Int) := by omega
      have n11 : (11 : Int) < (n : Int) := by omega
      clear cel
      go_upto_region 14 with fail
      have c8 : ((nw : Int) / 256) = ((b8 - 1 : Nat) : Int) := by rw [← HNW.out]; omega
      have c10 : ((fx : Int) / 256) = ((fx / 256 : Nat) : Int) := by omega
      have c11 : ((fx : Int) % 256) = ((fx % 256 : Nat) : Int) := by omega
      rw [c8, c10, c11]
      have h8 := (HO5.out.stored 8 (.int .u8 ((b8 - 1 : Nat) : Int))).1
      rw [set_u8] at h8
      have h10 := (h8.stored 10 (.int .u8 ((fx / 256 : Nat) : Int))).1
      rw [set_u8] at h10
      have h11 := (h10.stored 11 (.int .u8 ((fx % 256 : Nat) : Int))).1
      rw [set_u8] at h11
      have hl : (((bs ++ r).set 8 (b8 - 1)).set 10 (fx / 256)).set 11 (fx % 256) = I4.hop bs ++ r := by
        have e8 : 8 < bs.length := by rw [HN.out]; omega
        rw [set_app _ _ _ _ e8, set_app _ _ _ _ (by rw [List.length_set, HN.out]; omega), set_app _ _ _ _ (by rw [List.length_set, List.length_set, HN.out]; omega)]
        congr 1
        rw [HFX.out, HB8.out, I4.hop, S.putW]
      rw [hl] at h11
      have hch : Ch (fun q => q = g) w (((w5.setCell ⟨g, 8, none⟩ (.int .u8 ((b8 - 1 : Nat) : Int))).setCell ⟨g, 10, none⟩ (.int .u8 ((fx / 256 : Nat) : Int))).setCell ⟨g, 11, none⟩ (.int .u8 ((fx % 256 : Nat) : Int))) :=
        (((Ch.ofBelow (S := fun q => q = g) bel4).set ⟨g, 8, none⟩ _ (show g = g from rfl)).set ⟨g, 10, none⟩ _ (show g = g from rfl)).set ⟨g, 11, none⟩ _ (show g = g from rfl)
      obtain ⟨w6, hw6⟩ : ∃ w6, w6 = ((w5.setCell ⟨g, 8, none⟩ (.int .u8 ((b8 - 1 : Nat) : Int))).setCell ⟨g, 10, none⟩ (.int .u8 ((fx / 256 : Nat) : Int))).setCell ⟨g, 11, none⟩ (.int .u8 ((fx % 256 : Nat) : Int)) := ⟨_, rfl⟩
      rw [← hw6] at h11 hch ⊢
      have HO6 : Hid (w6.ownsRow B 5 1 (.slice (some ⟨g, 0, none⟩) N c) N ((toI (I4.hop bs ++ r)).map (Value.int .u8))) := h11
      have HCH : Hid (Ch (fun q => q = g) w w6) := hch
      clear c8 c10 c11 h8 h10 h11 hl hch d8 d10 d11 f8 f10 f11 HO5 hw6
      go_wp2
      go_ret
      exact ⟨by rw [HF.out]; rfl, HCH.out, by rw [HL.out]; exact HO6.out⟩
end Go.Proofs.YtdinhgfkpjaipaaDoor
