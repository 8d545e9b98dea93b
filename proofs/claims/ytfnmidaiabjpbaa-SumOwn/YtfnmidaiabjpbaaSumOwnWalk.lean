/-
  The walk of SumOwn: it answers true, whatever it is handed, and writes nothing that was there.
-/
import Derived.Test.YtfnmidaiabjpbaaSum4
namespace Go.Proofs.Ytfnmidaiabjpbaa.sumOwn
open Go.RowKit

theorem xor_bit : ∀ x, x < 256 → ∀ s, s < 8 → (x ^^^ 2 ^ s = x + 2 ^ s ∨ (x ^^^ 2 ^ s) + 2 ^ s = x) ∧ x ^^^ 2 ^ s < 256 ∧ 1 ≤ 2 ^ s ∧ 2 ^ s ≤ 128 := by decide +kernel
theorem bit_of (b : Int) (n : Nat) (hn : 0 < n) : ∃ bi sh : Nat, bi < n ∧ sh < 8 ∧ b % (8 * (n : Int)) = 8 * (bi : Int) + sh := by
  have h1 := Int.emod_nonneg b (show (8 * (n : Int)) ≠ 0 by omega)
  have h2 := Int.emod_lt_of_pos b (show (0 : Int) < 8 * n by omega)
  generalize b % (8 * (n : Int)) = r at *
  exact ⟨(r / 8).toNat, (r % 8).toNat, by omega, by omega, by omega⟩
theorem bit_neg (b : Int) (n : Nat) (hn : 0 < n) (hb : b < 0) : ∃ bi sh : Nat, bi < n ∧ sh < 8 ∧ -(b + 1).tmod (8 * (n : Int)) = 8 * (bi : Int) + sh := by
  have e : -(b + 1).tmod (8 * (n : Int)) = (-(b + 1)) % (8 * (n : Int)) := by rw [← Int.neg_tmod, Int.tmod_eq_emod_of_nonneg (by omega)]
  rw [e]
  exact bit_of _ n hn
theorem flip_bad (l : List Nat) (i x s : Nat) (hi : i < l.length) (hx : x = l[i]) (hx2 : x < 256) (hs : s < 8) (h : S.fold (S.wv false l) = 65535) : S.fold (S.wv false (l.set i (x ^^^ 2 ^ s))) ≠ 65535 := by
  obtain ⟨h1, h2, h3, h4⟩ := xor_bit x hx2 s hs
  have e := S.wv_set false l i (x ^^^ 2 ^ s) hi
  rw [← hx] at e
  rw [S.fold_full] at h
  intro hc
  rw [S.fold_full] at hc
  generalize x ^^^ 2 ^ s = y at *
  generalize 2 ^ s = p at *
  have hw : S.wt false i = 1 ∨ S.wt false i = 256 := by unfold S.wt; split <;> simp
  rcases hw with hw | hw <;> rw [hw] at e <;> omega

set_option maxHeartbeats 1600000 in
theorem walk (a0 : Option Addr) (len0 cap0 : Nat) (z0 : List Int) (a1 a2 : Int) (w : World) (w0 : IsRow .u8 w a0 len0 cap0 z0) (w1 : (Lit.int .i64 a1).wf = true) (w2 : (Lit.int .i64 a2).wf = true) :
    Calls Try.prog 5 #[.slice a0 len0 cap0, .int .i64 a1, .int .i64 a2] w fun e w' => e = .returned (.bool true) ∧ Below w.heap.size w w' := by
  obtain ⟨bs, rfl, hb, h1, h2, h256⟩ := w0.bytes
  have ha : (-9223372036854775808 ≤ a1 ∧ a1 ≤ 9223372036854775807) ∧ (-9223372036854775808 ≤ a2 ∧ a2 ≤ 9223372036854775807) := by
    simp [Lit.wf, IntKind.min, IntKind.max, IntKind.bits, IntKind.signed] at w1 w2
    omega
  obtain ⟨⟨ha1, ha2⟩, ha3, ha4⟩ := ha
  clear w0 w1 w2
  go_enter Try.func5, Try.ntmps5
  go_wp2_with fail
  refine (even_n a0 bs.length cap0 bs w rfl hb h256 h1 h2).mono ?_
  rintro e w1 ⟨v, n, m, rfl, ho, hn, HN, hm256, hb1⟩
  clear hb h256
  by_cases hn0 : n = 0
  · obtain ⟨va, vc, rfl⟩ := owns_shape ho
    subst hn0
    go_wp2_with fail
    have ho2 : OwnB (w1.alloc (.cells #[.int .u8 0, .int .u8 0] 5)) w.heap.size (.slice (some ⟨w1.heap.size, 0, none⟩) 2 2) 2 [0, 0] := World.ownsRow_lit w1 #[.int .u8 0, .int .u8 0] 2 hb1.size (by decide) rfl
    have hb02 : Below w.heap.size w (w1.alloc (.cells #[.int .u8 0, .int .u8 0] 5)) := hb1.alloc hb1.size _
    have hgB := hb1.size
    have hn2 : 2 ≤ 131072 := by decide
    have HN2 : Hid (2 % 2 = 0) := rfl
    have hm2 : ∀ x ∈ [0, 0], x < 256 := by decide
    clear ho hb1 HN hm256 hn
    refine (place_n _ 2 2 a1 _ HN2 (by omega) (by omega) ha1 ha2).mono ?_
    rintro e w3 ⟨i, rfl, HI, hi2, rfl⟩
    go_wp2_with fail
    refine (put_any w1.heap.size 2 2 w.heap.size i 0 [0, 0] _ ho2 hi2 (by omega) (by omega)).mono ?_
    rintro e w3 ⟨rfl, ho3, hg3⟩
    have hb03 : Below w.heap.size w w3 := hb02.grown hg3 hb02.size (by intro k hk; simp at hk; omega)
    have hm3 := S.putW_lt [0, 0] i 0 (by omega) hm2
    have hw3 : S.wordAt (S.putW [0, 0] i 0) i = 0 := S.putW_at [0, 0] i 0 (by rw [ho2.len]; exact hi2)
    have hl3 : (S.putW [0, 0] i 0).length = 2 := by rw [S.putW_len]; exact ho2.len
    obtain ⟨l, hl⟩ : ∃ l, l = S.putW [0, 0] i 0 := ⟨_, rfl⟩
    rw [← hl] at ho3 hm3 hw3 hl3
    have HW : Hid (S.wordAt l i = 0) := hw3
    have HL : Hid (l.length = 2) := hl3
    clear hl hw3 hl3 hg3 ho2 hb02
    go_wp2_with fail
    refine (check_one _ _ (some ⟨w1.heap.size, 0, none⟩) 2 2 l rfl HL.out (ho3.part hm3) (by omega)).mono ?_
    rintro e w4 ⟨rfl, hb4⟩
    have ho4 := OwnB.below ho3 hb4
    have hb04 := hb03.trans (hb4.mono hb03.size)
    obtain ⟨q, hq⟩ : ∃ q, q = 65535 - S.fold (S.wv false l) := ⟨_, rfl⟩
    have hq2 : q ≤ 65535 := by omega
    have hgood : S.fold (S.wv false (S.putW l i q)) = 65535 := by
      have e2 := S.wv_putW l i q (by rw [HL.out]; exact hi2) HI.out
      rw [HW.out, Nat.add_zero] at e2
      rw [e2, hq]
      exact S.own_good _
    rw [← hq]
    clear hq ho3 hb03 hb4
    go_wp2_with fail
    refine (put_any w1.heap.size 2 2 w.heap.size i q l _ ho4 hi2 (by omega) hq2).mono ?_
    rintro e w5 ⟨rfl, ho5, hg5⟩
    have hb05 : Below w.heap.size w w5 := hb04.grown hg5 hb04.size (by intro k hk; simp at hk; omega)
    have hm5 := S.putW_lt l i q (by omega) hm3
    obtain ⟨r, hr⟩ : ∃ r, r = S.putW l i q := ⟨_, rfl⟩
    rw [← hr] at ho5 hm5 hgood
    have HG : Hid (S.fold (S.wv false r) = 65535) := hgood
    clear hr hgood hg5 ho4 hb04
    go_wp2_with fail
    refine (good_one _ _ (some ⟨w1.heap.size, 0, none⟩) 2 2 r rfl ho5.len (ho5.part hm5) (by omega)).mono ?_
    rintro e w6 ⟨rfl, hb6⟩
    rw [HG.out]
    have ho6 := OwnB.below ho5 hb6
    have hb06 := hb05.trans (hb6.mono hb05.size)
    clear ho5 hb05 hb6
    go_wp2_with fail
    refine (awake_any _).mono ?_
    rintro e w7 ⟨rfl, hb7⟩
    have ho7 := OwnB.below ho6 hb7
    have hb07 := hb06.trans (hb7.mono hb06.size)
    clear ho6 hb06 hb7
    by_cases hneg : a2 < 0
    · obtain ⟨bi, sh, hbi, hsh, hE⟩ := bit_neg a2 2 (by omega) hneg
      go_wp2
      have hE2 : -(a2 + 1).tmod 16 = 8 * (bi : Int) + sh := hE
      try rw [hE2]
      clear hE hE2
      have hrl := ho7.len
      have c7 : w7.cell? ⟨w1.heap.size, bi, none⟩ = some (.int .u8 ((r.getD bi 0 : Nat) : Int)) := by
        rw [ho7.cellAt bi (by omega)]; simp [toI, List.getD, show bi < r.length by omega]
      have f7 := ho7.frozenAt bi
      have hd1 : (8 * (bi : Int) + sh) / 8 = bi := by omega
      have hd2 : (8 * (bi : Int) + sh) % 8 = sh := by omega
      have hd3 : (8 * (bi : Int) + sh).tdiv 8 = bi := by rw [Int.tdiv_eq_ediv_of_nonneg (by omega)]; exact hd1
      have hd4 : (8 * (bi : Int) + sh).tmod 8 = sh := by rw [Int.tmod_eq_emod_of_nonneg (by omega)]; exact hd2
      obtain ⟨x, hx⟩ : ∃ x, x = r.getD bi 0 := ⟨_, rfl⟩
      have hxl : x = r[bi]'(by omega) := by rw [hx]; simp [List.getD, show bi < r.length by omega]
      have hx2 : x < 256 := by rw [hxl]; exact hm5 _ (List.getElem_mem _)
      have hbad := flip_bad r bi x sh (by omega) hxl hx2 hsh HG.out
      have HB : Hid _ := hbad
      have hm8 : ∀ y ∈ r.set bi (x ^^^ 2 ^ sh), y < 256 := by
        intro y hy
        rcases List.mem_or_eq_of_mem_set hy with hy | rfl
        · exact hm5 y hy
        · exact (xor_bit x hx2 sh hsh).2.1
      rw [← hx] at c7
      have hst := ho7.stored bi (.int .u8 ((x ^^^ 2 ^ sh : Nat) : Int))
      have HST : Hid _ := hst
      have HRL : Hid (r.length = 2) := hrl
      have hp8 : IntKind.u8.wrap (2 ^ sh) = ((2 ^ sh : Nat) : Int) := by
        have := (xor_bit x hx2 sh hsh).2.2.2
        have e : ((2 : Int) ^ sh) = ((2 ^ sh : Nat) : Int) := by simp
        rw [e, u8_lo, Nat.mod_eq_of_lt (by omega)]
      have hxx : bits .xor .u8 (x : Int) (2 ^ sh) = ((x ^^^ 2 ^ sh : Nat) : Int) := by
        have e : ((2 : Int) ^ sh) = ((2 ^ sh : Nat) : Int) := by simp
        rw [e]
        exact u8_xor_nat _ _ hx2 (by have := (xor_bit x hx2 sh hsh).2.2.2; omega)
      clear hbad hst hx hxl hrl
      go_region
      obtain ⟨y, hy⟩ : ∃ y, y = x ^^^ 2 ^ sh := ⟨_, rfl⟩
      rw [← hy] at HST HB hm8 ⊢
      have ho8 : OwnB (w7.setCell ⟨w1.heap.size, bi, none⟩ (.int .u8 (y : Int))).drew w.heap.size (.slice (some ⟨w1.heap.size, 0, none⟩) 2 2) 2 (r.set bi y) := by
        have := HST.out.1.drew
        rw [← List.map_set] at this
        simpa [OwnB, toI, List.map_set] using this
      have hb08 : Below w.heap.size w (w7.setCell ⟨w1.heap.size, bi, none⟩ (.int .u8 (y : Int))).drew := (hb07.grown HST.out.2 hb07.size (by intro k hk; simp at hk; omega)).drew
      obtain ⟨w8, hw8⟩ : ∃ w8, w8 = (w7.setCell ⟨w1.heap.size, bi, none⟩ (.int .u8 (y : Int))).drew := ⟨_, rfl⟩
      rw [← hw8] at ho8 hb08 ⊢
      clear hw8 HST hy hxx hp8 hb07 ho7 hd1 hd2 hd3 hd4 c7 f7
      go_wp2_with fail
      refine (good_one _ _ (some ⟨w1.heap.size, 0, none⟩) 2 2 (r.set bi y) rfl ho8.len (ho8.part hm8) (by omega)).mono ?_
      rintro e w9 ⟨rfl, hb9⟩
      rw [decide_eq_false HB.out]
      go_wp2
      go_ret
      exact ⟨rfl, hb08.trans (hb9.mono hb08.size)⟩
    · obtain ⟨bi, sh, hbi, hsh, hE⟩ := bit_of a2 2 (by omega)
      go_wp2
      have hE2 : a2 % 16 = 8 * (bi : Int) + sh := hE
      try rw [hE2]
      clear hE hE2
      have hrl := ho7.len
      have c7 : w7.cell? ⟨w1.heap.size, bi, none⟩ = some (.int .u8 ((r.getD bi 0 : Nat) : Int)) := by
        rw [ho7.cellAt bi (by omega)]; simp [toI, List.getD, show bi < r.length by omega]
      have f7 := ho7.frozenAt bi
      have hd1 : (8 * (bi : Int) + sh) / 8 = bi := by omega
      have hd2 : (8 * (bi : Int) + sh) % 8 = sh := by omega
      have hd3 : (8 * (bi : Int) + sh).tdiv 8 = bi := by rw [Int.tdiv_eq_ediv_of_nonneg (by omega)]; exact hd1
      have hd4 : (8 * (bi : Int) + sh).tmod 8 = sh := by rw [Int.tmod_eq_emod_of_nonneg (by omega)]; exact hd2
      obtain ⟨x, hx⟩ : ∃ x, x = r.getD bi 0 := ⟨_, rfl⟩
      have hxl : x = r[bi]'(by omega) := by rw [hx]; simp [List.getD, show bi < r.length by omega]
      have hx2 : x < 256 := by rw [hxl]; exact hm5 _ (List.getElem_mem _)
      have hbad := flip_bad r bi x sh (by omega) hxl hx2 hsh HG.out
      have HB : Hid _ := hbad
      have hm8 : ∀ y ∈ r.set bi (x ^^^ 2 ^ sh), y < 256 := by
        intro y hy
        rcases List.mem_or_eq_of_mem_set hy with hy | rfl
        · exact hm5 y hy
        · exact (xor_bit x hx2 sh hsh).2.1
      rw [← hx] at c7
      have hst := ho7.stored bi (.int .u8 ((x ^^^ 2 ^ sh : Nat) : Int))
      have HST : Hid _ := hst
      have HRL : Hid (r.length = 2) := hrl
      have hp8 : IntKind.u8.wrap (2 ^ sh) = ((2 ^ sh : Nat) : Int) := by
        have := (xor_bit x hx2 sh hsh).2.2.2
        have e : ((2 : Int) ^ sh) = ((2 ^ sh : Nat) : Int) := by simp
        rw [e, u8_lo, Nat.mod_eq_of_lt (by omega)]
      have hxx : bits .xor .u8 (x : Int) (2 ^ sh) = ((x ^^^ 2 ^ sh : Nat) : Int) := by
        have e : ((2 : Int) ^ sh) = ((2 ^ sh : Nat) : Int) := by simp
        rw [e]
        exact u8_xor_nat _ _ hx2 (by have := (xor_bit x hx2 sh hsh).2.2.2; omega)
      clear hbad hst hx hxl hrl
      go_region
      obtain ⟨y, hy⟩ : ∃ y, y = x ^^^ 2 ^ sh := ⟨_, rfl⟩
      rw [← hy] at HST HB hm8 ⊢
      have ho8 : OwnB (w7.setCell ⟨w1.heap.size, bi, none⟩ (.int .u8 (y : Int))).drew w.heap.size (.slice (some ⟨w1.heap.size, 0, none⟩) 2 2) 2 (r.set bi y) := by
        have := HST.out.1.drew
        rw [← List.map_set] at this
        simpa [OwnB, toI, List.map_set] using this
      have hb08 : Below w.heap.size w (w7.setCell ⟨w1.heap.size, bi, none⟩ (.int .u8 (y : Int))).drew := (hb07.grown HST.out.2 hb07.size (by intro k hk; simp at hk; omega)).drew
      obtain ⟨w8, hw8⟩ : ∃ w8, w8 = (w7.setCell ⟨w1.heap.size, bi, none⟩ (.int .u8 (y : Int))).drew := ⟨_, rfl⟩
      rw [← hw8] at ho8 hb08 ⊢
      clear hw8 HST hy hxx hp8 hb07 ho7 hd1 hd2 hd3 hd4 c7 f7
      go_wp2_with fail
      refine (good_one _ _ (some ⟨w1.heap.size, 0, none⟩) 2 2 (r.set bi y) rfl ho8.len (ho8.part hm8) (by omega)).mono ?_
      rintro e w9 ⟨rfl, hb9⟩
      rw [decide_eq_false HB.out]
      go_wp2
      go_ret
      exact ⟨rfl, hb08.trans (hb9.mono hb08.size)⟩
  · obtain ⟨g, c, rfl, hgB, hgs⟩ := own_form ho (by omega)
    have hkn : ((n : Int) == 0) = false := by simp; omega
    have ho2 := ho
    have hb02 := hb1
    have HN2 := HN
    have hm2 := hm256
    clear ho hb1 HN hm256
    go_wp2_with fail
    refine (place_n _ c n a1 _ HN2 (by omega) (by omega) ha1 ha2).mono ?_
    rintro e w3 ⟨i, rfl, HI, hi2, rfl⟩
    go_wp2_with fail
    refine (put_any g n c w.heap.size i 0 m _ ho2 hi2 (by omega) (by omega)).mono ?_
    rintro e w3 ⟨rfl, ho3, hg3⟩
    have hb03 : Below w.heap.size w w3 := hb02.grown hg3 hb02.size (by intro k hk; simp at hk; omega)
    have hm3 := S.putW_lt m i 0 (by omega) hm2
    have hw3 : S.wordAt (S.putW m i 0) i = 0 := S.putW_at m i 0 (by rw [ho2.len]; exact hi2)
    have hl3 : (S.putW m i 0).length = n := by rw [S.putW_len]; exact ho2.len
    obtain ⟨l, hl⟩ : ∃ l, l = S.putW m i 0 := ⟨_, rfl⟩
    rw [← hl] at ho3 hm3 hw3 hl3
    have HW : Hid (S.wordAt l i = 0) := hw3
    have HL : Hid (l.length = n) := hl3
    clear hl hw3 hl3 hg3 ho2 hb02
    go_wp2_with fail
    refine (check_one _ _ (some ⟨g, 0, none⟩) n c l rfl HL.out (ho3.part hm3) (by omega)).mono ?_
    rintro e w4 ⟨rfl, hb4⟩
    have ho4 := OwnB.below ho3 hb4
    have hb04 := hb03.trans (hb4.mono hb03.size)
    obtain ⟨q, hq⟩ : ∃ q, q = 65535 - S.fold (S.wv false l) := ⟨_, rfl⟩
    have hq2 : q ≤ 65535 := by omega
    have hgood : S.fold (S.wv false (S.putW l i q)) = 65535 := by
      have e2 := S.wv_putW l i q (by rw [HL.out]; exact hi2) HI.out
      rw [HW.out, Nat.add_zero] at e2
      rw [e2, hq]
      exact S.own_good _
    rw [← hq]
    clear hq ho3 hb03 hb4
    go_wp2_with fail
    refine (put_any g n c w.heap.size i q l _ ho4 hi2 (by omega) hq2).mono ?_
    rintro e w5 ⟨rfl, ho5, hg5⟩
    have hb05 : Below w.heap.size w w5 := hb04.grown hg5 hb04.size (by intro k hk; simp at hk; omega)
    have hm5 := S.putW_lt l i q (by omega) hm3
    obtain ⟨r, hr⟩ : ∃ r, r = S.putW l i q := ⟨_, rfl⟩
    rw [← hr] at ho5 hm5 hgood
    have HG : Hid (S.fold (S.wv false r) = 65535) := hgood
    clear hr hgood hg5 ho4 hb04
    go_wp2_with fail
    refine (good_one _ _ (some ⟨g, 0, none⟩) n c r rfl ho5.len (ho5.part hm5) (by omega)).mono ?_
    rintro e w6 ⟨rfl, hb6⟩
    rw [HG.out]
    have ho6 := OwnB.below ho5 hb6
    have hb06 := hb05.trans (hb6.mono hb05.size)
    clear ho5 hb05 hb6
    go_wp2_with fail
    refine (awake_any _).mono ?_
    rintro e w7 ⟨rfl, hb7⟩
    have ho7 := OwnB.below ho6 hb7
    have hb07 := hb06.trans (hb7.mono hb06.size)
    clear ho6 hb06 hb7
    by_cases hneg : a2 < 0
    · obtain ⟨bi, sh, hbi, hsh, hE⟩ := bit_neg a2 n (by omega) hneg
      go_wp2
      have hE2 : -(a2 + 1).tmod (8 * (n : Int)) = 8 * (bi : Int) + sh := hE
      try rw [hE2]
      clear hE hE2
      have hrl := ho7.len
      have c7 : w7.cell? ⟨g, bi, none⟩ = some (.int .u8 ((r.getD bi 0 : Nat) : Int)) := by
        rw [ho7.cellAt bi (by omega)]; simp [toI, List.getD, show bi < r.length by omega]
      have f7 := ho7.frozenAt bi
      have hd1 : (8 * (bi : Int) + sh) / 8 = bi := by omega
      have hd2 : (8 * (bi : Int) + sh) % 8 = sh := by omega
      have hd3 : (8 * (bi : Int) + sh).tdiv 8 = bi := by rw [Int.tdiv_eq_ediv_of_nonneg (by omega)]; exact hd1
      have hd4 : (8 * (bi : Int) + sh).tmod 8 = sh := by rw [Int.tmod_eq_emod_of_nonneg (by omega)]; exact hd2
      obtain ⟨x, hx⟩ : ∃ x, x = r.getD bi 0 := ⟨_, rfl⟩
      have hxl : x = r[bi]'(by omega) := by rw [hx]; simp [List.getD, show bi < r.length by omega]
      have hx2 : x < 256 := by rw [hxl]; exact hm5 _ (List.getElem_mem _)
      have hbad := flip_bad r bi x sh (by omega) hxl hx2 hsh HG.out
      have HB : Hid _ := hbad
      have hm8 : ∀ y ∈ r.set bi (x ^^^ 2 ^ sh), y < 256 := by
        intro y hy
        rcases List.mem_or_eq_of_mem_set hy with hy | rfl
        · exact hm5 y hy
        · exact (xor_bit x hx2 sh hsh).2.1
      rw [← hx] at c7
      have hst := ho7.stored bi (.int .u8 ((x ^^^ 2 ^ sh : Nat) : Int))
      have HST : Hid _ := hst
      have HRL : Hid (r.length = n) := hrl
      have hp8 : IntKind.u8.wrap (2 ^ sh) = ((2 ^ sh : Nat) : Int) := by
        have := (xor_bit x hx2 sh hsh).2.2.2
        have e : ((2 : Int) ^ sh) = ((2 ^ sh : Nat) : Int) := by simp
        rw [e, u8_lo, Nat.mod_eq_of_lt (by omega)]
      have hxx : bits .xor .u8 (x : Int) (2 ^ sh) = ((x ^^^ 2 ^ sh : Nat) : Int) := by
        have e : ((2 : Int) ^ sh) = ((2 ^ sh : Nat) : Int) := by simp
        rw [e]
        exact u8_xor_nat _ _ hx2 (by have := (xor_bit x hx2 sh hsh).2.2.2; omega)
      clear hbad hst hx hxl hrl
      go_region
      obtain ⟨y, hy⟩ : ∃ y, y = x ^^^ 2 ^ sh := ⟨_, rfl⟩
      rw [← hy] at HST HB hm8 ⊢
      have ho8 : OwnB (w7.setCell ⟨g, bi, none⟩ (.int .u8 (y : Int))).drew w.heap.size (.slice (some ⟨g, 0, none⟩) n c) n (r.set bi y) := by
        have := HST.out.1.drew
        rw [← List.map_set] at this
        simpa [OwnB, toI, List.map_set] using this
      have hb08 : Below w.heap.size w (w7.setCell ⟨g, bi, none⟩ (.int .u8 (y : Int))).drew := (hb07.grown HST.out.2 hb07.size (by intro k hk; simp at hk; omega)).drew
      obtain ⟨w8, hw8⟩ : ∃ w8, w8 = (w7.setCell ⟨g, bi, none⟩ (.int .u8 (y : Int))).drew := ⟨_, rfl⟩
      rw [← hw8] at ho8 hb08 ⊢
      clear hw8 HST hy hxx hp8 hb07 ho7 hd1 hd2 hd3 hd4 c7 f7
      go_wp2_with fail
      refine (good_one _ _ (some ⟨g, 0, none⟩) n c (r.set bi y) rfl ho8.len (ho8.part hm8) (by omega)).mono ?_
      rintro e w9 ⟨rfl, hb9⟩
      rw [decide_eq_false HB.out]
      go_wp2
      go_ret
      exact ⟨rfl, hb08.trans (hb9.mono hb08.size)⟩
    · obtain ⟨bi, sh, hbi, hsh, hE⟩ := bit_of a2 n (by omega)
      go_wp2
      have hE2 : a2 % (8 * (n : Int)) = 8 * (bi : Int) + sh := hE
      try rw [hE2]
      clear hE hE2
      have hrl := ho7.len
      have c7 : w7.cell? ⟨g, bi, none⟩ = some (.int .u8 ((r.getD bi 0 : Nat) : Int)) := by
        rw [ho7.cellAt bi (by omega)]; simp [toI, List.getD, show bi < r.length by omega]
      have f7 := ho7.frozenAt bi
      have hd1 : (8 * (bi : Int) + sh) / 8 = bi := by omega
      have hd2 : (8 * (bi : Int) + sh) % 8 = sh := by omega
      have hd3 : (8 * (bi : Int) + sh).tdiv 8 = bi := by rw [Int.tdiv_eq_ediv_of_nonneg (by omega)]; exact hd1
      have hd4 : (8 * (bi : Int) + sh).tmod 8 = sh := by rw [Int.tmod_eq_emod_of_nonneg (by omega)]; exact hd2
      obtain ⟨x, hx⟩ : ∃ x, x = r.getD bi 0 := ⟨_, rfl⟩
      have hxl : x = r[bi]'(by omega) := by rw [hx]; simp [List.getD, show bi < r.length by omega]
      have hx2 : x < 256 := by rw [hxl]; exact hm5 _ (List.getElem_mem _)
      have hbad := flip_bad r bi x sh (by omega) hxl hx2 hsh HG.out
      have HB : Hid _ := hbad
      have hm8 : ∀ y ∈ r.set bi (x ^^^ 2 ^ sh), y < 256 := by
        intro y hy
        rcases List.mem_or_eq_of_mem_set hy with hy | rfl
        · exact hm5 y hy
        · exact (xor_bit x hx2 sh hsh).2.1
      rw [← hx] at c7
      have hst := ho7.stored bi (.int .u8 ((x ^^^ 2 ^ sh : Nat) : Int))
      have HST : Hid _ := hst
      have HRL : Hid (r.length = n) := hrl
      have hp8 : IntKind.u8.wrap (2 ^ sh) = ((2 ^ sh : Nat) : Int) := by
        have := (xor_bit x hx2 sh hsh).2.2.2
        have e : ((2 : Int) ^ sh) = ((2 ^ sh : Nat) : Int) := by simp
        rw [e, u8_lo, Nat.mod_eq_of_lt (by omega)]
      have hxx : bits .xor .u8 (x : Int) (2 ^ sh) = ((x ^^^ 2 ^ sh : Nat) : Int) := by
        have e : ((2 : Int) ^ sh) = ((2 ^ sh : Nat) : Int) := by simp
        rw [e]
        exact u8_xor_nat _ _ hx2 (by have := (xor_bit x hx2 sh hsh).2.2.2; omega)
      clear hbad hst hx hxl hrl
      go_region
      obtain ⟨y, hy⟩ : ∃ y, y = x ^^^ 2 ^ sh := ⟨_, rfl⟩
      rw [← hy] at HST HB hm8 ⊢
      have ho8 : OwnB (w7.setCell ⟨g, bi, none⟩ (.int .u8 (y : Int))).drew w.heap.size (.slice (some ⟨g, 0, none⟩) n c) n (r.set bi y) := by
        have := HST.out.1.drew
        rw [← List.map_set] at this
        simpa [OwnB, toI, List.map_set] using this
      have hb08 : Below w.heap.size w (w7.setCell ⟨g, bi, none⟩ (.int .u8 (y : Int))).drew := (hb07.grown HST.out.2 hb07.size (by intro k hk; simp at hk; omega)).drew
      obtain ⟨w8, hw8⟩ : ∃ w8, w8 = (w7.setCell ⟨g, bi, none⟩ (.int .u8 (y : Int))).drew := ⟨_, rfl⟩
      rw [← hw8] at ho8 hb08 ⊢
      clear hw8 HST hy hxx hp8 hb07 ho7 hd1 hd2 hd3 hd4 c7 f7
      go_wp2_with fail
      refine (good_one _ _ (some ⟨g, 0, none⟩) n c (r.set bi y) rfl ho8.len (ho8.part hm8) (by omega)).mono ?_
      rintro e w9 ⟨rfl, hb9⟩
      rw [decide_eq_false HB.out]
      go_wp2
      go_ret
      exact ⟨rfl, hb08.trans (hb9.mono hb08.size)⟩
end Go.Proofs.Ytfnmidaiabjpbaa.sumOwn
