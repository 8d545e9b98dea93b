/-
  The walk of SumZeros: it answers true, whatever it is handed, and writes nothing that was there.
-/
import Derived.Test.YtfnmidaiabjpbaaSum4
namespace Go.Proofs.Ytfnmidaiabjpbaa.sumZeros
open Go.RowKit

theorem last_good (l : List Nat) (i : Nat) (h : i + 1 < l.length) (he : i % 2 = 0) (hl : l.length % 2 = 0) (hw : S.wordAt l i = 0) (c : Nat) (hc : c = 65535 - S.fold (S.wv false l)) :
    S.fold (S.wv false (l ++ [c / 256, c % 256])) = 65535 ∧ S.fold (S.wv false (S.putW (l ++ [c / 256, c % 256]) i 65535)) = 65535 := by
  have e1 : S.wv false (l ++ [c / 256, c % 256]) = S.wv false l + c := by rw [wv_even_append _ _ hl]; simp [S.wv]; omega
  have e2 := S.wv_putW (l ++ [c / 256, c % 256]) i 65535 (by simp; omega) he
  rw [wordAt_append _ _ _ h, hw, e1] at e2
  have e3 := S.own_good (S.wv false l)
  rw [← hc] at e3
  refine ⟨by rw [e1]; exact e3, ?_⟩
  rw [S.fold_full] at e3 ⊢
  omega

set_option maxHeartbeats 800000 in
theorem walk (a0 : Option Addr) (len0 cap0 : Nat) (z0 : List Int) (a1 : Int) (w : World) (w0 : IsRow .u8 w a0 len0 cap0 z0) (w1 : (Lit.int .i64 a1).wf = true) :
    Calls Try.prog 6 #[.slice a0 len0 cap0, .int .i64 a1] w fun e w' => e = .returned (.bool true) ∧ Below w.heap.size w w' := by
  obtain ⟨i0, hi, hz0, hz1, hz2⟩ := info_parts Try.infoByte
  obtain ⟨bs, rfl, hb, h1, h2, h256⟩ := w0.bytes
  have ha : -9223372036854775808 ≤ a1 ∧ a1 ≤ 9223372036854775807 := by
    simp [Lit.wf, IntKind.min, IntKind.max, IntKind.bits, IntKind.signed] at w1
    omega
  obtain ⟨ha1, ha2⟩ := ha
  clear w0 w1
  go_enter Try.func6, Try.ntmps6
  go_wp2_with fail
  refine (even_n a0 bs.length cap0 bs w rfl hb h256 h1 h2).mono ?_
  rintro e w1 ⟨v, n, m, rfl, ho, hn, HN, hm256, hb1⟩
  clear hb h256
  by_cases hn0 : n = 0
  · obtain ⟨va, vc, rfl⟩ := owns_shape ho
    subst hn0
    go_wp2_with fail
    refine (awake_any _).mono ?_
    rintro e w2 ⟨rfl, hb2⟩
    go_wp2
    go_ret
    exact ⟨rfl, bthen hb1 hb2⟩
  · obtain ⟨g, c, rfl, hgB, hgs⟩ := own_form ho (by omega)
    have hkn : ((n : Int) == 0) = false := by simp; omega
    go_wp2_with fail
    refine (awake_any _).mono ?_
    rintro e w2 ⟨rfl, hb2⟩
    have ho2 := OwnB.below ho hb2
    have hb02 := bthen hb1 hb2
    clear ho hb1 hb2
    go_wp2_with fail
    refine (place_n _ c n a1 _ HN (by omega) (by omega) ha1 ha2).mono ?_
    rintro e w3 ⟨i, rfl, HI, hi2, rfl⟩
    go_wp2_with fail
    refine (put_any g n c w.heap.size i 0 m _ ho2 hi2 (by omega) (by omega)).mono ?_
    rintro e w3 ⟨rfl, ho3, hg3⟩
    have hb03 : Below w.heap.size w w3 := hb02.grown hg3 hb02.size (by intro k hk; simp at hk; omega)
    have hm3 := S.putW_lt m i 0 (by omega) hm256
    have hw3 : S.wordAt (S.putW m i 0) i = 0 := S.putW_at m i 0 (by rw [ho2.len]; exact hi2)
    have hl3 : (S.putW m i 0).length = n := by rw [S.putW_len]; exact ho2.len
    obtain ⟨l, hl⟩ : ∃ l, l = S.putW m i 0 := ⟨_, rfl⟩
    rw [← hl] at ho3 hm3 hw3 hl3
    have HW : Hid (S.wordAt l i = 0) := hw3
    have HL : Hid (l.length = n) := hl3
    clear hl hw3 hl3 hg3 ho2 hb02
    go_wp2_with fail
    refine (check_one _ _ (some ⟨g, 0, none⟩) n c l rfl HL.out (ho3.part hm3) (by omega)).mono ?_
    rintro e w4 ⟨rfl, hb4⟩
    have ho4 := OwnB.below ho3 hb4
    have hb04 := hb03.trans (hb4.mono hb03.size)
    obtain ⟨q, hq⟩ : ∃ q, q = 65535 - S.fold (S.wv false l) := ⟨_, rfl⟩
    have hlast := last_good l i (by rw [HL.out]; exact hi2) HI.out (by rw [HL.out]; exact HN.out) HW.out q hq
    have hq2 : q ≤ 65535 := by omega
    rw [← hq]
    have hp1 : IntKind.u8.wrap ((q : Int) / 256) = ((q / 256 : Nat) : Int) := u8_hi q hq2
    have hp2 : IntKind.u8.wrap (q : Int) = ((q % 256 : Nat) : Int) := u8_lo q
    have HLG : Hid _ := hlast
    obtain ⟨r, hr⟩ : ∃ r, r = q / 256 := ⟨_, rfl⟩
    obtain ⟨s, hs⟩ : ∃ s, s = q % 256 := ⟨_, rfl⟩
    have hm5 := mem2 l q hq2 hm3
    rw [← hr, ← hs] at hm5 HLG
    rw [← hr] at hp1
    rw [← hs] at hp2
    clear hq hlast hr hs ho3 hb03 hb4
    go_wp2_with (first | (at_builtin; refine wpList_append_own _ rfl (.tmp 25) (.tmp 31) 25 rfl w.heap.size 5 i0 (.int .u8 0) 1 1 Try.underlying25 hi hz0 hz1 hz2 rfl (by decide) _ _ _ rfl (ho4.alloc _) ⟨w4.heap.size, 0, none⟩ 2 2 [.int .u8 (r : Int), .int .u8 (s : Int)] rfl rfl ?c1 ?c2 ?c3 ?c4 ?c5 ?_))
    case c1 => exact cells_two_new _ _ _ _
    case c2 => intro u hu; simp at hu; rcases hu with rfl | rfl <;> rfl
    case c3 => unfold maxLen; omega
    case c4 => omega
    case c5 => have := hb04.size; simp; omega
    intro v5 w5 ho5' hg5 _
    have hb05 : Below w.heap.size w w5 := (hb04.alloc hb04.size _).grown hg5 (by have := hb04.size; simp; omega) (fun j hj => (ho4.lt j hj).1)
    have ho5 : OwnB w5 w.heap.size v5 (n + 2) (l ++ [r, s]) := by simpa [OwnB, toI] using ho5'
    obtain ⟨g5, c5, rfl, hg5B, hg5s⟩ := own_form ho5 (by omega)
    clear ho5' hg5 ho4 hb04
    go_wp2_with fail
    refine (good_one _ _ (some ⟨g5, 0, none⟩) (n + 2) c5 (l ++ [r, s]) rfl ho5.len (ho5.part hm5) (by omega)).mono ?_
    rintro e w6 ⟨rfl, hb6⟩
    rw [HLG.out.1]
    have ho6 := OwnB.below ho5 hb6
    have hb06 := hb05.trans (hb6.mono hb05.size)
    clear ho5 hb05 hb6
    go_wp2_with fail
    refine (put_any g5 (n + 2) c5 w.heap.size i 65535 (l ++ [r, s]) _ ho6 (by omega) (by omega) (by omega)).mono ?_
    rintro e w7 ⟨rfl, ho7, hg7⟩
    have hb07 : Below w.heap.size w w7 := hb06.grown hg7 hb06.size (by intro k hk; simp at hk; omega)
    go_wp2_with fail
    refine (good_one _ _ (some ⟨g5, 0, none⟩) (n + 2) c5 _ rfl ho7.len (ho7.part (S.putW_lt _ i 65535 (by omega) hm5)) (by omega)).mono ?_
    rintro e w8 ⟨rfl, hb8⟩
    rw [HLG.out.2]
    go_wp2
    go_ret
    exact ⟨rfl, hb07.trans (hb8.mono hb07.size)⟩
end Go.Proofs.Ytfnmidaiabjpbaa.sumZeros
