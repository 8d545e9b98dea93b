/-
  The walk of SumTurns: it answers true, whatever it is handed, and writes nothing that was there.
-/
import Derived.Test.YtfnmidaiabjpbaaSum7
import Derived.Test.YtfnmidaiabjpbaaMix
import Derived.Deep.DeepCutAuto
namespace Go.Proofs.Ytfnmidaiabjpbaa.sumTurns
open Go.RowKit

theorem or_i64 (x y : Nat) (hx : x < 256) (hy : y < 256) : bits .or .i64 ((x : Int) * 256) (y : Int) = ((256 * x + y : Nat) : Int) := by
  have e2 : ((x : Int) * 256) = ((256 * x : Nat) : Int) := by omega
  have h2 := Nat.two_pow_add_eq_or_of_lt (i := 8) (b := y) (by omega) x
  rw [e2]
  have key : (BitVec.ofInt 64 ((256 * x : Nat) : Int) ||| BitVec.ofInt 64 (y : Int)).toNat = 256 * x ||| y := by
    rw [BitVec.toNat_or, BitVec.toNat_ofInt, BitVec.toNat_ofInt]
    congr 1 <;> omega
  show IntKind.i64.wrap ((BitVec.ofInt 64 ((256 * x : Nat) : Int) ||| BitVec.ofInt 64 (y : Int)).toNat : Nat) = _
  have h3 : 256 * x ||| y = 256 * x + y := h2.symm
  rw [key, h3, IntKind.wrap_i64]
  omega
theorem fix_nat (c a b : Nat) (w : World) (hc : c ≤ 65535) (ha : a ≤ 65535) (hb : b ≤ 65535) :
    Calls Try.prog 21 #[.int .i64 c, .int .i64 a, .int .i64 b] w fun e w' => e = .returned (.tuple #[.int .i64 ((S.fix1 c a b : Nat) : Int), .int .i64 0]) ∧ w' = w := by
  have h : (isW (c : Int) && isW (a : Int) && isW (b : Int)) = true := by simp [isW]; omega
  have := fix_any c a b w
  rw [fixN, fixE, if_pos h, if_pos h] at this
  simpa using this
theorem fixB_le (c : Nat) (o z : List Nat) (hc : c ≤ 65535) : S.fixB c o z ≤ 65535 := by
  match o, z with
  | [], _ => rw [fixB_nil]; exact hc
  | [a], [] => simpa [S.fixB] using hc
  | [a], [b] => exact S.fix1_le _ _ _
  | [a], b :: b' :: z => simpa [S.fixB] using hc
  | a :: a' :: o, [] => simpa [S.fixB] using hc
  | a :: a' :: o, [b] => simpa [S.fixB] using hc
  | a :: a' :: o, b :: b' :: z => simp only [S.fixB]; exact fixB_le _ o z (S.fix1_le _ _ _)
theorem word1_at (o : List Nat) (j : Nat) : word1 (o.drop j) = 256 * o.getD j 0 + o.getD (j + 1) 0 := by
  unfold word1
  simp [List.getD, List.getElem?_drop]
/-- FixBytes where it answers a sum -/
theorem fixBytes_nat (c : Nat) (a b : Option Addr) (n c1 c2 f : Nat) (l m : List Nat) (w : World) (hc : c ≤ 65535) (hn1 : l.length = n) (hn2 : m.length = n) (hp : Part.ok w ⟨a, c1, l⟩) (hq : Part.ok w ⟨b, c2, m⟩) (hsz : n ≤ 1099511627776) (hf : S.fixB c l m = f) :
    Calls Try.prog 20 #[.int .i64 c, .slice a n c1, .slice b n c2] w fun e w' => e = .returned (.tuple #[.int .i64 (f : Int), .int .i64 0]) ∧ Below w.heap.size w w' := by
  have h : isW (c : Int) = true := by simp [isW]; omega
  have := fixBytes_any c a b n n c1 c2 l m w hn1 hn2 hp hq hsz
  rw [fbN, fbE, if_pos h, if_pos h, if_pos (by omega), if_pos (by omega), Int.toNat_natCast, hf] at this
  exact this

set_option maxHeartbeats 3200000 in
set_option maxRecDepth 100000 in
theorem walk (a0 : Option Addr) (len0 cap0 : Nat) (z0 : List Int) (a1 : Int) (a2 : Option Addr) (len2 cap2 : Nat) (z2 : List Int) (w : World) (w0 : IsRow .u8 w a0 len0 cap0 z0) (w1 : (Lit.int .i64 a1).wf = true) (w2 : IsRow .u8 w a2 len2 cap2 z2) :
    Calls Try.prog 8 #[.slice a0 len0 cap0, .int .i64 a1, .slice a2 len2 cap2] w fun e w' => e = .returned (.bool true) ∧ Below w.heap.size w w' := by
  obtain ⟨i0, hi, hz0, hz1, hz2⟩ := info_parts Try.infoByte
  obtain ⟨bs, rfl, hb, h1, h2, h256⟩ := w0.bytes
  obtain ⟨zs, rfl, hzs, h3, h4, hz256⟩ := w2.bytes
  have ha : (-9223372036854775808 ≤ a1 ∧ a1 ≤ 9223372036854775807) := by
    simp [Lit.wf, IntKind.min, IntKind.max, IntKind.bits, IntKind.signed] at w1
    omega
  obtain ⟨ha1, ha2⟩ := ha
  clear w0 w1 w2
  go_enter Try.func8, Try.ntmps8
  go_wp2_with fail
  refine (even_n a0 bs.length cap0 bs w rfl hb h256 h1 h2).mono ?_
  rintro e w1 ⟨v, N, m, rfl, ho, hn, HN, hm256, hb1⟩
  clear hb h256
  by_cases hn0 : N = 0
  · obtain ⟨va, vc, rfl⟩ := owns_shape ho
    subst hn0
    go_wp2_with fail
    refine (awake_any _).mono ?_
    rintro e w2 ⟨rfl, hb2⟩
    go_wp2
    go_ret
    exact ⟨rfl, bthen hb1 hb2⟩
  · obtain ⟨g, c, rfl, hgB, hgs⟩ := own_form ho (by omega)
    have hkn : ((N : Int) == 0) = false := by simp; omega
    have hnc := (owns_seg_at ho).2.1
    have hcm := (owns_seg_at ho).2.2
    go_wp2_with fail
    refine (awake_any _).mono ?_
    rintro e w2 ⟨rfl, hb2⟩
    have ho2 := OwnB.below ho hb2
    have hb02 := bthen hb1 hb2
    clear ho hb1 hb2
    have HL : Hid (m.length = N) := ho2.len
    go_wp2_with fail
    refine (place_n _ c N a1 _ HN (by omega) (by omega) ha1 ha2).mono ?_
    rintro e w4 ⟨i, rfl, HI, hi2, rfl⟩
    obtain ⟨L, hL⟩ : ∃ L, L = zs.length := ⟨_, rfl⟩
    rw [← hL] at h3 ⊢
    have HZL : Hid (zs.length = L) := hL.symm
    clear hL
    go_upto_if 35 with fail
    go_cut [7] (fun s7 wx => ∃ n : Nat, s7 = .int .i64 n ∧ n ≤ L ∧ i + n ≤ N ∧ wx = w2)
    case first =>
      by_cases hbig : N - i < L
      · go_wp2
        all_goals (go_meet; exact ⟨N - i, by go_num, by omega, by omega, rfl⟩)
      · go_wp2
        all_goals (go_meet; exact ⟨L, rfl, by omega, by omega, rfl⟩)
    case rest =>
    obtain ⟨n, rfl, hnL, hiN, rfl⟩ := hcut
    obtain ⟨V, hV⟩ : ∃ V, V = 65535 - S.fold (S.wv false m) := ⟨_, rfl⟩
    have HV : Hid (V = 65535 - S.fold (S.wv false m)) := hV
    have hV2 : V ≤ 65535 := by omega
    clear hV
    obtain ⟨o, hO⟩ : ∃ o, o = (m.drop i).take n := ⟨_, rfl⟩
    have HO : Hid (o = (m.drop i).take n) := hO
    have HOL : Hid (o.length = n) := by show _ = _; rw [hO, List.length_take, List.length_drop, HL.out]; omega
    have ho256 : ∀ x ∈ o, x < 256 := by rw [hO]; exact fun x hx => hm256 x (List.mem_of_mem_drop (List.mem_of_mem_take hx))
    clear hO
    obtain ⟨z, hZ⟩ : ∃ z, z = zs.take n := ⟨_, rfl⟩
    have HZ : Hid (z = zs.take n) := hZ
    have HZN : Hid (z.length = n) := by show _ = _; rw [hZ, List.length_take, HZL.out]; omega
    have hz256' : ∀ x ∈ z, x < 256 := by rw [hZ]; exact fun x hx => hz256 x (List.mem_of_mem_take hx)
    have hzseg : Seg .u8 w a2 (toI z) := by rw [hZ, ← toI_take]; exact hzs.part0 n (by rw [toI_len, HZL.out]; exact hnL)
    clear hZ
    obtain ⟨C, hC⟩ : ∃ C, C = S.fixB V o z := ⟨_, rfl⟩
    have HC : Hid (S.fixB V o z = C) := hC.symm
    have hC2 : C ≤ 65535 := by rw [hC]; exact fixB_le V o z hV2
    clear hC
    go_wp2_with fail
    refine (check_one _ _ (some ⟨g, 0, none⟩) N c m rfl HL.out (ho2.part hm256) (by omega)).mono ?_
    rintro e w3 ⟨rfl, hb3⟩
    rw [← HV.out]
    have ho3 := OwnB.below ho2 hb3
    have hb03 := bthen hb02 hb3
    clear ho2 hb02 hb3
    have hci : ¬ c = i := by omega
    have hoseg : Seg .u8 w3 (some ⟨g, i, none⟩) (toI o) := by
      have := (owns_seg_at ho3).1.part i n (by rw [toI_len, HL.out]; exact hiN)
      simp only [Option.map_some, Addr.add_lit, Nat.zero_add] at this
      rw [toI_drop, toI_take, ← HO.out] at this
      exact this
    go_wp2_with (first | (at_builtin; refine wpList_append_seg rfl (.const (.slice none 0 0)) (.tmp 48) 25 rfl w3.heap.size 5 i0 (.int .u8 0) 1 Try.underlying25 hi hz0 hz1 hz2 rfl (.slice none 0 0) 0 [] rfl (World.ownsRow_nil _ _ _ _) .u8 _ _ _ (toI o) rfl (by rw [toI_len, HOL.out]; omega) hoseg (by unfold maxLen; omega) (by omega) (Nat.le_refl _) ?_))
    intro v5 w5 ho5' hg5
    obtain ⟨E, hE⟩ : ∃ E, E = w3.heap.size := ⟨_, rfl⟩
    have hgE : g < E := by obtain ⟨g', c', e1, _, h5⟩ := own_form ho3 (by omega); simp at e1; omega
    have hEB : w.heap.size ≤ E := by rw [hE]; exact hb03.size
    rw [← hE] at ho5'
    have ho5 : OwnB w5 E v5 n o := ho5'
    clear hE
    obtain ⟨oa, oc, rfl⟩ := owns_shape ho5'
    have hb05 : Below w.heap.size w w5 := hb03.grown hg5 hb03.size (by intro k hk; simp [Value.ownBlock] at hk)
    have hob5 : OwnB w5 w.heap.size (.slice (some ⟨g, 0, none⟩) N c) N m := ho3.kept hg5 (by simp [Value.ownBlock])
    clear ho5' hg5 ho3 hb03 hoseg
    have hzp : ∀ w', Below w.heap.size w w' → Part.ok w' ⟨a2, cap2, z⟩ := fun w' h => ⟨hzseg.old h, hz256', by show z.length ≤ cap2; rw [HZN.out]; omega, h4⟩
    have HZP : Hid _ := hzp
    clear hzp
    go_wp2_with fail
    refine (fixBytes_nat V oa a2 n oc cap2 C o z _ hV2 HOL.out HZN.out (ho5.part ho256) (HZP.out _ hb05) (by omega) HC.out).mono ?_
    rintro e w6 ⟨rfl, hb6⟩
    have ho6 := OwnB.below ho5 hb6
    have hob6 := OwnB.below hob5 hb6
    have hb06 := hb05.trans (hb6.mono hb05.size)
    clear ho5 hob5 hb05 hb6
    go_wp2
    go_loopw [12, 11, 13] (fun d e ix wr => ∃ j D : Nat, j ≤ n + 1 ∧ Hid (j % 2 = 0) ∧ Hid (n % 2 = 0 → j ≤ n) ∧ D ≤ 65535 ∧ d = .int .i64 D ∧ e = .int .i64 0 ∧ ix = .int .i64 j ∧ Hid (S.fixB D (o.drop j) (z.drop j) = C) ∧ OwnB wr E (.slice oa n oc) n o ∧ OwnB wr w.heap.size (.slice (some ⟨g, 0, none⟩) N c) N m ∧ Below w.heap.size w wr) (fun _ _ ix _ => n + 2 - (intOf ix).toNat)
    case atStart => exact ⟨0, V, by omega, rfl, fun _ => by omega, hV2, rfl, rfl, rfl, HC, ho6, hob6, hb06⟩
    case round =>
      obtain ⟨j, D, hj, HJ, HJE, hD, rfl, rfl, rfl, HD, ho7, hob7, hb7⟩ := hrel
      clear ho6 hob6 hb06
      by_cases hlt : j + 1 < n
      · obtain ⟨ob, ooff, rfl, hoc⟩ := seg_at (owns_seg_at ho7).1 j (by rw [HOL.out]; omega)
        obtain ⟨zb, zoff, rfl, hzc⟩ := seg_at (HZP.out _ hb7).1 j (by rw [HZN.out]; omega)
        have c0 := hoc j (by rw [HOL.out]; omega)
        have c1 := hoc (j + 1) (by rw [HOL.out]; omega)
        have d0 := hzc j (by rw [HZN.out]; omega)
        have d1 := hzc (j + 1) (by rw [HZN.out]; omega)
        have hst := fixB_step D (o.drop j) (z.drop j) (by simp [HOL.out, HZN.out]) (by simp [HOL.out]; omega)
        rw [word1_at, word1_at, List.drop_drop, List.drop_drop] at hst
        have hg0 : ∀ (l : List Nat) (k : Nat), (∀ x ∈ l, x < 256) → l.getD k 0 < 256 := by
          intro l k h
          by_cases hk : k < l.length
          · simp only [List.getD, List.getElem?_eq_getElem hk, Option.getD_some]; exact h _ (List.getElem_mem _)
          · simp [List.getD, List.getElem?_eq_none (Nat.le_of_not_lt hk)]
        have q0 := hg0 o j ho256
        have q1 := hg0 o (j + 1) ho256
        have r0 := hg0 z j hz256'
        have r1 := hg0 z (j + 1) hz256'
        obtain ⟨x0, hx0⟩ : ∃ x, x = o.getD j 0 := ⟨_, rfl⟩
        obtain ⟨x1, hx1⟩ : ∃ x, x = o.getD (j + 1) 0 := ⟨_, rfl⟩
        obtain ⟨y0, hy0⟩ : ∃ x, x = z.getD j 0 := ⟨_, rfl⟩
        obtain ⟨y1, hy1⟩ : ∃ x, x = z.getD (j + 1) 0 := ⟨_, rfl⟩
        rw [← hx0] at c0 hst q0
        rw [← hx1] at c1 hst q1
        rw [← hy0] at d0 hst r0
        rw [← hy1] at d1 hst r1
        have hor1 := or_i64 x0 x1 q0 q1
        have hor2 := or_i64 y0 y1 r0 r1
        obtain ⟨p, hp⟩ : ∃ p, p = 256 * x0 + x1 := ⟨_, rfl⟩
        obtain ⟨q, hq⟩ : ∃ q, q = 256 * y0 + y1 := ⟨_, rfl⟩
        rw [← hp] at hor1 hst
        rw [← hq] at hor2 hst
        have hp2 : p ≤ 65535 := by omega
        have hq2 : q ≤ 65535 := by omega
        have hfix := fix_nat D p q
        have hfl := S.fix1_le D p q
        obtain ⟨F, hF⟩ : ∃ F, F = S.fix1 D p q := ⟨_, rfl⟩
        rw [← hF] at hst hfl
        simp only [← hF] at hfix
        have HFX : Hid _ := hfix
        have HST : Hid (S.fixB F (o.drop (j + 2)) (z.drop (j + 2)) = C) := by rw [hst] at HD; exact HD
        have b0 : (0 : Int) ≤ (j : Int) := by omega
        have b1 : (j : Int) < (n : Int) := by omega
        have b2 : (j : Int) + 1 < (n : Int) := by omega
        have b3 : (j : Int) < (L : Int) := by omega
        have b4 : (j : Int) + 1 < (L : Int) := by omega
        have b5 : (0 : Int) ≤ (j : Int) + 1 := by omega
        have e0 : IntKind.i64.wrap ((j : Int) + 1) = (j : Int) + 1 := by rw [IntKind.wrap_i64]; omega
        have e1 : IntKind.i64.wrap (x0 : Int) = (x0 : Int) := by rw [IntKind.wrap_i64]; omega
        have e2 : IntKind.i64.wrap (x1 : Int) = (x1 : Int) := by rw [IntKind.wrap_i64]; omega
        have e3 : IntKind.i64.wrap (y0 : Int) = (y0 : Int) := by rw [IntKind.wrap_i64]; omega
        have e4 : IntKind.i64.wrap (y1 : Int) = (y1 : Int) := by rw [IntKind.wrap_i64]; omega
        have e5 : IntKind.i64.wrap ((x0 : Int) * 256) = (x0 : Int) * 256 := by rw [IntKind.wrap_i64]; omega
        have e6 : IntKind.i64.wrap ((y0 : Int) * 256) = (y0 : Int) * 256 := by rw [IntKind.wrap_i64]; omega
        have b6 : ((j : Int) + 1).toNat = j + 1 := by omega
        have b7 : j + 1 < n := by omega
        have b8 : j + 1 < L := by omega
        clear hst hfix hF hp hq hx0 hx1 hy0 hy1 hg0 hoc hzc
        go_wp2_with fail
        go_quiet ((go_at_call 21; exact Calls.quiet_of_same (HFX.out _ hD hp2 hq2)))
        go_wp2
        go_roundw
        case rel => exact ⟨j + 2, F, by omega, by have := HJ.out; show _ = _; omega, fun h => by have := HJ.out; omega, hfl, by go_num, rfl, by go_num, HST, OwnB.below ho7 (below_drewN _ _), OwnB.below hob7 (below_drewN _ _), hb7.trans ((below_drewN _ _).mono hb7.size)⟩
        case measure => simp [intOf]; omega
      · have HDC : Hid (n % 2 = 0 → D = C) := fun h => by
          have h1 := HJ.out
          have h2 := HJE.out h
          have h3 := HD.out
          rw [List.drop_of_length_le (by rw [HOL.out]; omega), fixB_nil] at h3
          exact h3
        go_upto_region 16 with fail
        go_cut [112] (fun s wx => s = .bool false ∧ wx = wr)
        case first =>
          by_cases hpar : n % 2 = 0
          · obtain rfl := HDC.out hpar
            have h1 : ((n : Int) % 2 == 0) = true := by simp; omega
            have h2 : ((D : Int) != (D : Int)) = false := by simp
            go_wp2
            go_meet
            exact ⟨rfl, rfl⟩
          · have h1 : ((n : Int) % 2 == 0) = false := by simp; omega
            go_wp2
            go_meet
            exact ⟨rfl, rfl⟩
        case rest =>
        obtain ⟨rfl, rfl⟩ := hcut
        clear HDC HJE HD
        go_upto_if 115 with fail
        go_cut [] (fun wx => OwnB wx w.heap.size (.slice (some ⟨g, 0, none⟩) N c) N m ∧ Below w.heap.size w wx)
        case first =>
          by_cases hpar : n % 2 = 1
          · have hodd : ((n : Int) % 2 == 1) = true := by simp; omega
            have cx : wc.cell? ⟨g, i + n, none⟩ = some (.int .u8 ((m.getD (i + n) 0 : Nat) : Int)) := by
              rw [hob7.cellAt (i + n) (by have := HI.out; have := HN.out; omega)]; simp [toI, List.getD, show i + n < m.length by rw [HL.out]; have := HI.out; have := HN.out; omega]
            have hin : i + n < N := by have := HI.out; have := HN.out; omega
            have hx256 : m.getD (i + n) 0 < 256 := by
              simp only [List.getD, List.getElem?_eq_getElem (show i + n < m.length by rw [HL.out]; exact hin), Option.getD_some]; exact hm256 _ (List.getElem_mem _)
            obtain ⟨x, hx⟩ : ∃ x, x = m.getD (i + n) 0 := ⟨_, rfl⟩
            rw [← hx] at cx hx256
            have hcx : ∀ w', OwnB w' w.heap.size (.slice (some ⟨g, 0, none⟩) N c) N m → w'.cell? ⟨g, i + n, none⟩ = some (.int .u8 (x : Int)) := by
              intro w' h
              rw [h.cellAt (i + n) (by omega), hx]; simp [toI, List.getD, show i + n < m.length by rw [HL.out]; exact hin]
            have HCX : Hid _ := hcx
            have hpad := fixB_pad V o z x (by rw [HOL.out, HZN.out]) (by rw [HOL.out]; omega) ho256 hx256
            rw [HC.out] at hpad
            have HPAD : Hid (S.fixB V (o ++ [x]) (z ++ [x]) = C) := hpad
            have hox : (o ++ [x]).length = n + 1 := by rw [List.length_append, HOL.out]; rfl
            have hzx : (z ++ [x]).length = n + 1 := by rw [List.length_append, HZN.out]; rfl
            have hox256 : ∀ y ∈ o ++ [x], y < 256 := fun y hy => by rcases List.mem_append.1 hy with h | h; exact ho256 y h; simp at h; omega
            have hzx256 : ∀ y ∈ z ++ [x], y < 256 := fun y hy => by rcases List.mem_append.1 hy with h | h; exact hz256' y h; simp at h; omega
            have hEw : E ≤ wc.heap.size := by obtain ⟨g', c', e1, h5, h6⟩ := own_form ho7 (by omega); omega
            clear hx hcx hpad
            go_wp2_with (first | (at_builtin; refine wpList_append_own _ rfl (.tmp 116) (.tmp 123) 25 rfl E 5 i0 (.int .u8 0) 1 1 Try.underlying25 hi hz0 hz1 hz2 rfl (by decide) _ _ _ rfl (ho7.alloc _) ⟨wc.heap.size, 0, none⟩ 1 1 [.int .u8 (x : Int)] rfl rfl ?c1 ?c2 ?c3 ?c4 ?c5 ?_))
            case c2 => first | rfl | (intro u hu; simp at hu; subst hu; rfl)
            case c3 => unfold maxLen; omega
            case c4 => omega
            case c5 => first | omega | (simp; omega)
            intro v8 w8 ho8' hg8 _
            have ho8 : OwnB w8 E v8 (n + 1) (o ++ [x]) := by simpa [OwnB, toI] using ho8'
            have hob8 : OwnB w8 w.heap.size (.slice (some ⟨g, 0, none⟩) N c) N m := (hob7.alloc _).kept hg8 (.inr (by
              intro h
              have h1 := (ho7.lt g (by rw [← h]; rfl)).1
              omega))
            have hb08 : Below w.heap.size w w8 := (hb7.alloc hb7.size _).grown hg8 (by have := hb7.size; simp; omega) (fun k hk => by have := (ho7.lt k hk).1; omega)
            obtain ⟨oa', oc', rfl⟩ := owns_shape ho8'
            clear ho8' hg8
            go_upto_region 20 with fail
            have hooA : OwnB w8.drew E (.slice oa' (n + 1) oc') (n + 1) (o ++ [x]) := OwnB.below ho8 (below_drewN _ 1)
            have hobA : OwnB w8.drew w.heap.size (.slice (some ⟨g, 0, none⟩) N c) N m := OwnB.below hob8 (below_drewN _ 1)
            have hb0A : Below w.heap.size w w8.drew := hb08.drew
            have HOO : Hid (∀ k, (Value.slice oa' (n + 1) oc').ownBlock = some k → k < w8.heap.size) := fun k hk => (ho8.lt k hk).2
            have hgA : g < w8.heap.size := by obtain ⟨g', c', e1, _, h5⟩ := own_form hob8 (by omega); simp at e1; omega
            have hsA : w8.drew.heap.size = w8.heap.size := rfl
            have hCC : ((C : Int) != (C : Int)) = false := by simp
            have b0 : (0 : Int) ≤ (n : Int) := by omega
            have b1 : (n : Int) ≤ (L : Int) := by omega
            have b2 : (n : Int) ≤ (cap2 : Int) := by omega
            have b3 : (L : Int) ≤ (cap2 : Int) := by omega
            have b4 : (0 : Int) ≤ (i : Int) + (n : Int) := by omega
            have b5 : (i : Int) + (n : Int) < (N : Int) := by omega
            have b6 : ((i : Int) + (n : Int)).toNat = i + n := by omega
            have b7 : IntKind.i64.wrap ((i : Int) + (n : Int)) = (i : Int) + (n : Int) := by rw [IntKind.wrap_i64]; omega
            refine Mix.start (by kernel_rfl) ?_
            obtain ⟨wA, hwA⟩ : ∃ wA, wA = w8.drew := ⟨_, rfl⟩
            rw [← hwA] at hooA hobA hb0A hsA ⊢
            rw [← hsA] at HOO hgA
            clear hwA ho8 hob8 hb08 ho7 hob7 hb7 cx hEw hsA
            refine Mix.take [true, true, true, true, true, false, true, true, true, true, true] 10 (by kernel_rfl) (by kernel_rfl) (by decide) (by kernel_rfl) (fun K hK => ?_)
            simp only [Mix.pick]
            repeat (go_big_quiet_step (fail))
            refine wpQuiet_nil (hK _ ?_)
            clear hK K
            refine Mix.pair [false, false, false, false, false, true] [false, false, false, false, false, false, false, false, false, false, false, true] 9 5 11 _ _ rfl rfl rfl rfl (by kernel_rfl) (by kernel_rfl) (fun K hK => ?_) (fun K hK => ?_)
            · simp only [Mix.pick]
              go_wp2_with (first | (at_builtin; refine wpList_append_seg rfl (.const (.slice none 0 0)) (.tmp 130) 25 rfl wA.heap.size 5 i0 (.int .u8 0) 1 Try.underlying25 hi hz0 hz1 hz2 rfl (.slice none 0 0) 0 [] rfl (World.ownsRow_nil _ _ _ _) .u8 _ _ _ (toI z) rfl (by rw [toI_len, HZN.out]) (HZP.out _ hb0A).1 (by unfold maxLen; omega) (by omega) (Nat.le_refl _) ?_))
              intro vr WQ hor' hgr
              have hor : OwnB WQ wA.heap.size vr n z := hor'
              obtain ⟨ra, rc, rfl⟩ := owns_shape hor'
              go_wp2
              refine ⟨rfl, hK _ _ ?_⟩
              clear hK K
              have hb0Q : Below w.heap.size w WQ := hb0A.grown hgr hb0A.size (by intro k hk; simp [Value.ownBlock] at hk)
              have hobQ : OwnB WQ w.heap.size (.slice (some ⟨g, 0, none⟩) N c) N m := hobA.kept hgr (by simp [Value.ownBlock])
              have hooQ : OwnB WQ E (.slice oa' (n + 1) oc') (n + 1) (o ++ [x]) := hooA.kept hgr (by cases hv : (Value.slice oa' (n + 1) oc').ownBlock <;> simp [Value.ownBlock])
              have hszQ := hgr.size
              have cxQ := HCX.out _ hobQ
              have hszA := hb0A.size
              clear hor' hobA hooA hb0A hgr
              refine Mix.one [false, false, false, false, false, false, false, false, false, false, false, true] 8 11 _ rfl rfl (by kernel_rfl) (by kernel_rfl) (fun K hK => ?_)
              simp only [Mix.pick]
              go_wp2
              refine ⟨rfl, hK _ _ ?_⟩
              clear hK K
              refine Mix.one [false, false, false, false, false, false, false, false, false, false, false, false, true] 7 12 _ rfl rfl (by kernel_rfl) (by kernel_rfl) (fun K hK => ?_)
              simp only [Mix.pick]
              go_wp2
              refine ⟨rfl, hK _ _ ?_⟩
              clear hK K
              have horX := hor.alloc (.cells #[.int .u8 (x : Int)] 5)
              refine Mix.one [false, false, false, false, false, false, false, false, false, false, false, false, false, true] 6 13 _ rfl rfl (by kernel_rfl) (by kernel_rfl) (fun K hK => ?_)
              simp only [Mix.pick]
              go_wp2_with (first | (at_builtin; refine wpList_append_own _ rfl (.tmp 131) (.tmp 138) 25 rfl wA.heap.size 5 i0 (.int .u8 0) 1 1 Try.underlying25 hi hz0 hz1 hz2 rfl (by decide) _ _ _ rfl horX ⟨WQ.heap.size, 0, none⟩ 1 1 [.int .u8 (x : Int)] rfl rfl (cell_one_new _ _ _) (fun u hu => by simp at hu; subst hu; rfl) (by unfold maxLen; omega) (by omega) (by simp; omega) ?_))
              intro vs WS hos' hgs' _
              have hos : OwnB WS (wA.heap.size) vs (n + 1) (z ++ [x]) := by simpa [OwnB, toI] using hos'
              obtain ⟨sa, sc, rfl⟩ := owns_shape hos'
              go_wp2
              refine ⟨rfl, hK _ _ ?_⟩
              clear hK K
              have hneG : (Value.slice (some ⟨g, 0, none⟩) N c).ownBlock ≠ (Value.slice ra n rc).ownBlock := by
                intro h
                have h1 := (hor.lt g (by rw [← h]; rfl)).1
                omega
              have hneO : (Value.slice oa' (n + 1) oc').ownBlock = none ∨ (Value.slice oa' (n + 1) oc').ownBlock ≠ (Value.slice ra n rc).ownBlock := by
                cases hv : (Value.slice oa' (n + 1) oc').ownBlock with
                | none => exact .inl rfl
                | some k =>
                  refine .inr (fun h => ?_)
                  have h1 := (hor.lt k h.symm).1
                  have h2 := HOO.out k hv
                  omega
              have hobS : OwnB WS w.heap.size (.slice (some ⟨g, 0, none⟩) N c) N m := (hobQ.alloc _).kept hgs' (.inr hneG)
              have hoo : OwnB WS E (.slice oa' (n + 1) oc') (n + 1) (o ++ [x]) := (hooQ.alloc _).kept hgs' hneO
              have hb0S : Below w.heap.size w WS := (hb0Q.alloc hb0Q.size _).grown hgs' (by have := hb0Q.size; simp; omega) (fun k hk => by have := (hor.lt k hk).1; omega)
              clear hos' hgs' hneG hneO
              refine Mix.one [false, false, false, false, false, false, false, false, false, false, false, false, false, false, true] 5 14 _ rfl rfl (by kernel_rfl) (by kernel_rfl) (fun K hK => ?_)
              simp only [Mix.pick]
              go_wp2_with fail
              refine (fixBytes_nat V oa' sa (n + 1) oc' sc C (o ++ [x]) (z ++ [x]) _ hV2 hox hzx (hoo.part hox256) (hos.part hzx256) (by omega) HPAD.out).mono ?_
              rintro e WT ⟨rfl, hbT⟩
              have hobT := OwnB.below hobS hbT
              have hb0T := hb0S.trans (hbT.mono hb0S.size)
              go_wp2
              refine ⟨rfl, hK _ _ ?_⟩
              clear hK K
              refine Mix.take [false, false, false, false, false, false, false, false, false, false, false, false, false, false, false, true, true, true, true, true] 0 (by kernel_rfl) (by kernel_rfl) (by decide) (by kernel_rfl) (fun K hK => ?_)
              simp only [Mix.pick]
              repeat (go_big_quiet_step (fail))
              refine wpQuiet_nil (hK _ ?_)
              clear hK K
              refine Mix.done (by kernel_rfl) ?_
              go_wp2
              go_meet
              exact ⟨hobT, hb0T⟩
            · have cxA := HCX.out _ hobA
              have hszA := hb0A.size
              simp only [Mix.pick]
              go_wp2
              refine ⟨rfl, hK _ _ ?_⟩
              clear hK K
              refine Mix.pair [false, false, false, false, false, true] [false, false, false, false, false, false, false, false, false, false, false, false, true] 8 5 12 _ _ rfl rfl rfl rfl (by kernel_rfl) (by kernel_rfl) (fun K hK => ?_) (fun K hK => ?_)
              
              · simp only [Mix.pick]
                go_wp2_with (first | (at_builtin; refine wpList_append_seg rfl (.const (.slice none 0 0)) (.tmp 130) 25 rfl wA.heap.size 5 i0 (.int .u8 0) 1 Try.underlying25 hi hz0 hz1 hz2 rfl (.slice none 0 0) 0 [] rfl (World.ownsRow_nil _ _ _ _) .u8 _ _ _ (toI z) rfl (by rw [toI_len, HZN.out]) (HZP.out _ hb0A).1 (by unfold maxLen; omega) (by omega) (Nat.le_refl _) ?_))
                intro vr WQ hor' hgr
                have hor : OwnB WQ wA.heap.size vr n z := hor'
                obtain ⟨ra, rc, rfl⟩ := owns_shape hor'
                go_wp2
                refine ⟨rfl, hK _ _ ?_⟩
                clear hK K
                have hb0Q : Below w.heap.size w WQ := hb0A.grown hgr hb0A.size (by intro k hk; simp [Value.ownBlock] at hk)
                have hobQ : OwnB WQ w.heap.size (.slice (some ⟨g, 0, none⟩) N c) N m := hobA.kept hgr (by simp [Value.ownBlock])
                have hooQ : OwnB WQ E (.slice oa' (n + 1) oc') (n + 1) (o ++ [x]) := hooA.kept hgr (by cases hv : (Value.slice oa' (n + 1) oc').ownBlock <;> simp [Value.ownBlock])
                have hszQ := hgr.size
                clear hor' hobA hooA hb0A hgr
                refine Mix.one [false, false, false, false, false, false, false, false, false, false, false, false, true] 7 12 _ rfl rfl (by kernel_rfl) (by kernel_rfl) (fun K hK => ?_)
                simp only [Mix.pick]
                go_wp2
                refine ⟨rfl, hK _ _ ?_⟩
                clear hK K
                have horX := hor.alloc (.cells #[.int .u8 (x : Int)] 5)
                refine Mix.one [false, false, false, false, false, false, false, false, false, false, false, false, false, true] 6 13 _ rfl rfl (by kernel_rfl) (by kernel_rfl) (fun K hK => ?_)
                simp only [Mix.pick]
                go_wp2_with (first | (at_builtin; refine wpList_append_own _ rfl (.tmp 131) (.tmp 138) 25 rfl wA.heap.size 5 i0 (.int .u8 0) 1 1 Try.underlying25 hi hz0 hz1 hz2 rfl (by decide) _ _ _ rfl horX ⟨WQ.heap.size, 0, none⟩ 1 1 [.int .u8 (x : Int)] rfl rfl (cell_one_new _ _ _) (fun u hu => by simp at hu; subst hu; rfl) (by unfold maxLen; omega) (by omega) (by simp; omega) ?_))
                intro vs WS hos' hgs' _
                have hos : OwnB WS (wA.heap.size) vs (n + 1) (z ++ [x]) := by simpa [OwnB, toI] using hos'
                obtain ⟨sa, sc, rfl⟩ := owns_shape hos'
                go_wp2
                refine ⟨rfl, hK _ _ ?_⟩
                clear hK K
                have hneG : (Value.slice (some ⟨g, 0, none⟩) N c).ownBlock ≠ (Value.slice ra n rc).ownBlock := by
                  intro h
                  have h1 := (hor.lt g (by rw [← h]; rfl)).1
                  omega
                have hneO : (Value.slice oa' (n + 1) oc').ownBlock = none ∨ (Value.slice oa' (n + 1) oc').ownBlock ≠ (Value.slice ra n rc).ownBlock := by
                  cases hv : (Value.slice oa' (n + 1) oc').ownBlock with
                  | none => exact .inl rfl
                  | some k =>
                    refine .inr (fun h => ?_)
                    have h1 := (hor.lt k h.symm).1
                    have h2 := HOO.out k hv
                    omega
                have hobS : OwnB WS w.heap.size (.slice (some ⟨g, 0, none⟩) N c) N m := (hobQ.alloc _).kept hgs' (.inr hneG)
                have hoo : OwnB WS E (.slice oa' (n + 1) oc') (n + 1) (o ++ [x]) := (hooQ.alloc _).kept hgs' hneO
                have hb0S : Below w.heap.size w WS := (hb0Q.alloc hb0Q.size _).grown hgs' (by have := hb0Q.size; simp; omega) (fun k hk => by have := (hor.lt k hk).1; omega)
                clear hos' hgs' hneG hneO
                refine Mix.one [false, false, false, false, false, false, false, false, false, false, false, false, false, false, true] 5 14 _ rfl rfl (by kernel_rfl) (by kernel_rfl) (fun K hK => ?_)
                simp only [Mix.pick]
                go_wp2_with fail
                refine (fixBytes_nat V oa' sa (n + 1) oc' sc C (o ++ [x]) (z ++ [x]) _ hV2 hox hzx (hoo.part hox256) (hos.part hzx256) (by omega) HPAD.out).mono ?_
                rintro e WT ⟨rfl, hbT⟩
                have hobT := OwnB.below hobS hbT
                have hb0T := hb0S.trans (hbT.mono hb0S.size)
                go_wp2
                refine ⟨rfl, hK _ _ ?_⟩
                clear hK K
                refine Mix.take [false, false, false, false, false, false, false, false, false, false, false, false, false, false, false, true, true, true, true, true] 0 (by kernel_rfl) (by kernel_rfl) (by decide) (by kernel_rfl) (fun K hK => ?_)
                simp only [Mix.pick]
                repeat (go_big_quiet_step (fail))
                refine wpQuiet_nil (hK _ ?_)
                clear hK K
                refine Mix.done (by kernel_rfl) ?_
                go_wp2
                go_meet
                exact ⟨hobT, hb0T⟩
              · simp only [Mix.pick]
                go_wp2
                refine ⟨rfl, hK _ _ ?_⟩
                clear hK K
                obtain ⟨wL, hwL⟩ : ∃ wL, wL = wA.alloc (.cells #[.int .u8 (x : Int)] 5) := ⟨_, rfl⟩
                have hobL : OwnB wL w.heap.size (.slice (some ⟨g, 0, none⟩) N c) N m := by rw [hwL]; exact hobA.alloc _
                have hooL : OwnB wL E (.slice oa' (n + 1) oc') (n + 1) (o ++ [x]) := by rw [hwL]; exact hooA.alloc _
                have hb0L : Below w.heap.size w wL := by rw [hwL]; exact hb0A.alloc hb0A.size _
                have hcL : wL.cell? ⟨wA.heap.size, 0, none⟩ = some (.int .u8 (x : Int)) := by rw [hwL, World.cell?_alloc_at _ _ _ _ rfl]; rfl
                have HSL : Hid (wL.heap.size = wA.heap.size + 1) := by show _ = _; rw [hwL]; simp
                rw [← hwL]
                clear hwL
                refine Mix.one [false, false, false, false, false, true] 7 5 _ rfl rfl (by kernel_rfl) (by kernel_rfl) (fun K hK => ?_)
                simp only [Mix.pick]
                go_wp2_with (first | (at_builtin; refine wpList_append_seg rfl (.const (.slice none 0 0)) (.tmp 130) 25 rfl wL.heap.size 5 i0 (.int .u8 0) 1 Try.underlying25 hi hz0 hz1 hz2 rfl (.slice none 0 0) 0 [] rfl (World.ownsRow_nil _ _ _ _) .u8 _ _ _ (toI z) rfl (by rw [toI_len, HZN.out]) (HZP.out _ hb0L).1 (by unfold maxLen; omega) (by omega) (Nat.le_refl _) ?_))
                intro vr WQ hor' hgr
                have hor : OwnB WQ wL.heap.size vr n z := hor'
                obtain ⟨ra, rc, rfl⟩ := owns_shape hor'
                go_wp2
                refine ⟨rfl, hK _ _ ?_⟩
                clear hK K
                have hb0Q : Below w.heap.size w WQ := hb0L.grown hgr hb0L.size (by intro k hk; simp [Value.ownBlock] at hk)
                have hobQ : OwnB WQ w.heap.size (.slice (some ⟨g, 0, none⟩) N c) N m := hobL.kept hgr (by simp [Value.ownBlock])
                have hooQ : OwnB WQ E (.slice oa' (n + 1) oc') (n + 1) (o ++ [x]) := hooL.kept hgr (by cases hv : (Value.slice oa' (n + 1) oc').ownBlock <;> simp [Value.ownBlock])
                have hszQ := hgr.size
                have hcQ : WQ.cell? ⟨wA.heap.size, 0, none⟩ = some (.int .u8 (x : Int)) := hgr.cell hcL (by simp [Value.ownBlock])
                have hcQ' : ∀ (j : Nat) (u : Value), [Value.int .u8 (x : Int)][j]? = some u → WQ.cell? ((⟨wA.heap.size, 0, none⟩ : Addr).add j) = some u := by
                  intro j u hj
                  cases j with
                  | zero => rw [Addr.add_lit]; simp at hj; subst hj; exact hcQ
                  | succ j => simp at hj
                have horX := hor
                clear hor' hobA hooA hb0A hgr
                refine Mix.one [false, false, false, false, false, false, false, false, false, false, false, false, false, true] 6 13 _ rfl rfl (by kernel_rfl) (by kernel_rfl) (fun K hK => ?_)
                simp only [Mix.pick]
                go_wp2_with (first | (at_builtin; refine wpList_append_own _ rfl (.tmp 131) (.tmp 138) 25 rfl wL.heap.size 5 i0 (.int .u8 0) 1 1 Try.underlying25 hi hz0 hz1 hz2 rfl (by decide) _ _ _ rfl horX ⟨wA.heap.size, 0, none⟩ 1 1 [.int .u8 (x : Int)] rfl rfl hcQ' (fun u hu => by simp at hu; subst hu; rfl) (by unfold maxLen; omega) (by omega) (by omega) ?_))
                intro vs WS hos' hgs' _
                have hos : OwnB WS (wL.heap.size) vs (n + 1) (z ++ [x]) := by simpa [OwnB, toI] using hos'
                obtain ⟨sa, sc, rfl⟩ := owns_shape hos'
                go_wp2
                refine ⟨rfl, hK _ _ ?_⟩
                clear hK K
                have hsL := HSL.out
                have hneG : (Value.slice (some ⟨g, 0, none⟩) N c).ownBlock ≠ (Value.slice ra n rc).ownBlock := by
                  intro h
                  have h1 := (hor.lt g (by rw [← h]; rfl)).1
                  omega
                have hneO : (Value.slice oa' (n + 1) oc').ownBlock = none ∨ (Value.slice oa' (n + 1) oc').ownBlock ≠ (Value.slice ra n rc).ownBlock := by
                  cases hv : (Value.slice oa' (n + 1) oc').ownBlock with
                  | none => exact .inl rfl
                  | some k =>
                    refine .inr (fun h => ?_)
                    have h1 := (hor.lt k h.symm).1
                    have h2 := HOO.out k hv
                    omega
                have hobS : OwnB WS w.heap.size (.slice (some ⟨g, 0, none⟩) N c) N m := hobQ.kept hgs' (.inr hneG)
                have hoo : OwnB WS E (.slice oa' (n + 1) oc') (n + 1) (o ++ [x]) := hooQ.kept hgs' hneO
                have hb0S : Below w.heap.size w WS := hb0Q.grown hgs' (by have := hb0Q.size; omega) (fun k hk => by have := (hor.lt k hk).1; omega)
                clear hsL hos' hgs' hneG hneO
                refine Mix.one [false, false, false, false, false, false, false, false, false, false, false, false, false, false, true] 5 14 _ rfl rfl (by kernel_rfl) (by kernel_rfl) (fun K hK => ?_)
                simp only [Mix.pick]
                go_wp2_with fail
                refine (fixBytes_nat V oa' sa (n + 1) oc' sc C (o ++ [x]) (z ++ [x]) _ hV2 hox hzx (hoo.part hox256) (hos.part hzx256) (by omega) HPAD.out).mono ?_
                rintro e WT ⟨rfl, hbT⟩
                have hobT := OwnB.below hobS hbT
                have hb0T := hb0S.trans (hbT.mono hb0S.size)
                go_wp2
                refine ⟨rfl, hK _ _ ?_⟩
                clear hK K
                refine Mix.take [false, false, false, false, false, false, false, false, false, false, false, false, false, false, false, true, true, true, true, true] 0 (by kernel_rfl) (by kernel_rfl) (by decide) (by kernel_rfl) (fun K hK => ?_)
                simp only [Mix.pick]
                repeat (go_big_quiet_step (fail))
                refine wpQuiet_nil (hK _ ?_)
                clear hK K
                refine Mix.done (by kernel_rfl) ?_
                go_wp2
                go_meet
                exact ⟨hobT, hb0T⟩
          · have h1 : ((n : Int) % 2 == 1) = false := by simp; omega
            go_wp2
            go_meet
            exact ⟨hob7, hb7⟩
        case rest =>
        obtain ⟨ho8, hb8⟩ := hcut
        clear ho7 hob7 hb7
        go_wp2
        go_loopw [14] (fun ix wr => ∃ k : Nat, k ≤ n ∧ ix = .int .i64 k ∧ OwnB wr w.heap.size (.slice (some ⟨g, 0, none⟩) N c) N (repl m i (z.take k)) ∧ Below w.heap.size w wr) (fun ix _ => n - (intOf ix).toNat)
        case atStart => exact ⟨0, by omega, rfl, by rw [List.take_zero, repl_nil]; exact ho8, hb8⟩
        case round =>
          obtain ⟨k, hk, rfl, ho9, hb9⟩ := hrel
          clear ho8 hb8
          by_cases hlt : k < n
          · obtain ⟨zb, zoff, rfl, hzc⟩ := seg_at (HZP.out _ hb9).1 k (by rw [HZN.out]; omega)
            have d0 := hzc k (by rw [HZN.out]; omega)
            have hl9 := ho9.len
            have c9 : wr.cell? ⟨g, i + k, none⟩ = some (.int .u8 (((repl m i (z.take k)).getD (i + k) 0 : Nat) : Int)) := by
              rw [ho9.cellAt (i + k) (by omega)]; simp [toI, List.getD, show i + k < (repl m i (z.take k)).length by omega]
            have f9 := ho9.frozenAt (i + k)
            have hs9 := ho9.stored (i + k) (.int .u8 ((z.getD k 0 : Nat) : Int))
            rw [toI_set, repl_step m i z k (by rw [HZN.out]; exact hlt) (by rw [HZN.out, HL.out]; exact hiN)] at hs9
            have HS9 : Hid (_ ∧ _) := hs9
            obtain ⟨y, hy⟩ : ∃ y, y = z.getD k 0 := ⟨_, rfl⟩
            obtain ⟨x, hx⟩ : ∃ x, x = (repl m i (z.take k)).getD (i + k) 0 := ⟨_, rfl⟩
            rw [← hy] at d0 HS9
            rw [← hx] at c9
            have hkL : (k : Int) < (L : Int) := by omega
            clear hs9 hy hx hl9 hzc ho9
            go_wp2
            go_roundw
            case rel => exact ⟨k + 1, by omega, by go_num, HS9.out.1, hb9.grown HS9.out.2 hb9.size (by intro j hj; simp at hj; omega)⟩
            case measure => simp [intOf]; omega
          · obtain rfl : k = n := by omega
            rw [List.take_of_length_le (by rw [HZN.out]; omega)] at ho9
            have hrep := turned m z i HI.out (by rw [HZN.out, HL.out]; exact hiN) hm256 hz256'
            rw [HZN.out, ← HO.out, ← HV.out, HC.out] at hrep
            have HREP : Hid _ := hrep
            have hr256 := repl_lt m i z hm256 hz256'
            have HRL : Hid ((repl m i z).length = N) := ho9.len
            obtain ⟨r, hr⟩ : ∃ r, r = repl m i z := ⟨_, rfl⟩
            rw [← hr] at HREP ho9 hr256 HRL
            clear hrep hr
            go_wp2_with fail
            refine (zeros_any (some ⟨g, 0, none⟩) N c r _ HRL.out (owns_seg_at ho9).1 (by omega)).mono ?_
            rintro e w10 ⟨rfl, rfl⟩
            rw [allZ_wv]
            by_cases hz : S.wv false r = 0
            · rw [decide_eq_true hz]
              have hcheck : (65535 - S.fold (S.wv false r)) = 65535 := by rw [hz]; rfl
              have HCK : Hid _ := hcheck
              have hcz := HREP.out.1 hz
              have HCZ : Hid _ := hcz
              clear hcheck hcz hz
              go_wp2_with fail
              refine (check_one _ _ (some ⟨g, 0, none⟩) N c r rfl HRL.out (ho9.part hr256) (by omega)).mono ?_
              rintro e w11 ⟨rfl, hb11⟩
              rw [HCK.out]
              by_cases hk0 : k = 0
              · subst hk0
                go_wp2
                go_ret
                exact ⟨rfl, hb9.trans (hb11.mono hb9.size)⟩
              · have h1 : ((k : Int) == 0) = false := by simp; omega
                have hC0 : C = 0 := by rcases HCZ.out with h | h; exact absurd h hk0; exact h
                subst hC0
                go_wp2
                go_ret
                exact ⟨rfl, hb9.trans (hb11.mono hb9.size)⟩
            · rw [decide_eq_false hz]
              have hcz := HREP.out.2 hz
              have HCZ : Hid _ := hcz
              clear hcz hz
              go_wp2_with fail
              refine (check_one _ _ (some ⟨g, 0, none⟩) N c r rfl HRL.out (ho9.part hr256) (by omega)).mono ?_
              rintro e w11 ⟨rfl, hb11⟩
              rw [← HCZ.out]
              have h1 : ((C : Int) == (C : Int)) = true := by simp
              go_wp2
              go_ret
              exact ⟨rfl, hb9.trans (hb11.mono hb9.size)⟩
end Go.Proofs.Ytfnmidaiabjpbaa.sumTurns
