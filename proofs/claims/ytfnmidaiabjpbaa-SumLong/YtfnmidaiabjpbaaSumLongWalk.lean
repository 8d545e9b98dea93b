/-
  The walk of SumLong: it answers true, whatever it is handed, and writes nothing that was there.
-/
import Derived.Test.YtfnmidaiabjpbaaSum6
import Derived.Deep.DeepCutAuto
namespace Go.Proofs.Ytfnmidaiabjpbaa.sumLong
open Go.RowKit

theorem i64_and65535 (n : Int) : bits .and .i64 n 65535 = n % 65536 := by
  have h127 : (BitVec.ofInt 64 65535).toNat = 2 ^ 16 - 1 := by decide
  have key : (BitVec.ofInt 64 n &&& BitVec.ofInt 64 65535).toNat = (n % ((2 ^ 64 : Nat) : Int)).toNat % 2 ^ 16 := by
    rw [BitVec.toNat_and, BitVec.toNat_ofInt, h127, Nat.and_two_pow_sub_one_eq_mod]
  show IntKind.i64.wrap ((BitVec.ofInt 64 n &&& BitVec.ofInt 64 65535).toNat : Nat) = n % 65536
  rw [key, IntKind.wrap_i64]
  omega

theorem folded_any (n : Nat) (w : World) (h : n < 9223372036854775807) : Calls Try.prog 19 #[.int .i64 n] w fun e w' => e = .returned (.int .i64 ((S.fold n : Nat) : Int)) ∧ w = w' := by
  go_enter Try.func19, Try.ntmps19
  go_wp2
  go_loop [0] (fun v => ∃ m : Nat, m < 9223372036854775807 ∧ v = .int .i64 m ∧ Hid (S.fold m = S.fold n)) (fun v => (intOf v).toNat)
  case atStart => exact ⟨n, h, rfl, rfl⟩
  case round =>
    obtain ⟨m, hm, rfl, HM⟩ := hrel
    by_cases hlt : 65535 < m
    · have ha := i64_and65535 m
      obtain ⟨q, hq⟩ : ∃ q, q = m % 65536 := ⟨_, rfl⟩
      have ha2 : bits .and .i64 (m : Int) 65535 = (q : Int) := by rw [ha]; omega
      have hq2 : q < 65536 := by omega
      have HQ : Hid (q = m % 65536) := hq
      clear hq ha
      go_wp2
      go_round
      case rel => exact ⟨m % 65536 + m / 65536, by omega, by have := HQ.out; go_num, by show _ = _; rw [S.fold_step m hlt]; exact HM.out⟩
      case measure => have := HQ.out; simp [intOf]; omega
    · have HM2 : Hid (m = S.fold n) := by have := HM.out; rw [S.fold_small m (by omega)] at this; exact this
      go_wp2
      go_ret
      exact ⟨ret1 (by rw [← HM2.out]), rfl⟩

set_option maxHeartbeats 1600000 in
set_option maxRecDepth 100000 in
theorem walk (a0 a1 a2 : Int) (w : World) (w0 : (Lit.int .i64 a0).wf = true) (w1 : (Lit.int .i64 a1).wf = true) (w2 : (Lit.int .i64 a2).wf = true) :
    Calls Try.prog 7 #[.int .i64 a0, .int .i64 a1, .int .i64 a2] w fun e w' => e = .returned (.bool true) ∧ Below w.heap.size w w' := by
  obtain ⟨i0, hi, hz0, hz1, hz2⟩ := info_parts Try.infoByte
  have ha : (-9223372036854775808 ≤ a0 ∧ a0 ≤ 9223372036854775807) ∧ (-9223372036854775808 ≤ a1 ∧ a1 ≤ 9223372036854775807) ∧ (-9223372036854775808 ≤ a2 ∧ a2 ≤ 9223372036854775807) := by
    simp [Lit.wf, IntKind.min, IntKind.max, IntKind.bits, IntKind.signed] at w0 w1 w2
    omega
  clear w0 w1 w2
  obtain ⟨⟨p0, q0⟩, ⟨p1, q1⟩, p2, q2⟩ := ha
  have hand : ∃ v : Nat, bits .and .i64 a0 65535 = (v : Int) ∧ v ≤ 65535 := ⟨(a0 % 65536).toNat, by rw [i64_and65535]; omega, by omega⟩
  obtain ⟨v, hv, hv2⟩ := hand
  go_enter Try.func7, Try.ntmps7
  go_wp2_with fail
  refine (awake_any _).mono ?_
  rintro e w1 ⟨rfl, hb1⟩
  go_upto_region 4 with fail
  go_cut [1] (fun s1 wx => ∃ n : Nat, s1 = .int .i64 n ∧ 1 ≤ n ∧ n ≤ 1048576 ∧ wx = w1)
  case first =>
    by_cases c1 : a1 < 1
    · have c1' : decide (a1 < 1) = true := decide_eq_true c1
      go_wp2
      all_goals (go_meet; exact ⟨1, rfl, by omega, by omega, rfl⟩)
    · have c1' : decide (a1 < 1) = false := decide_eq_false c1
      obtain ⟨b1, rfl⟩ : ∃ b : Nat, a1 = b := ⟨a1.toNat, by omega⟩
      by_cases c2 : 1048576 < b1
      · go_wp2
        all_goals (go_meet; exact ⟨1048576, rfl, by omega, by omega, rfl⟩)
      · go_wp2
        all_goals (go_meet; exact ⟨b1, rfl, by omega, by omega, rfl⟩)
  case rest =>
  obtain ⟨n, rfl, hn1, hn2, rfl⟩ := hcut
  obtain ⟨t, ht⟩ : ∃ t, t = n * v := ⟨_, rfl⟩
  have ht2 : t ≤ 68718428160 := by
    have : n * v ≤ 1048576 * 65535 := Nat.mul_le_mul hn2 hv2
    omega
  have hmul : wrap64 ((n : Int) * (v : Int)) = (t : Int) := by
    have e : ((n : Int) * (v : Int)) = (t : Int) := by rw [ht]; simp
    rw [e]; unfold wrap64; omega
  have HT : Hid (t = n * v) := ht
  obtain ⟨p, hp⟩ : ∃ p, p = v / 256 := ⟨_, rfl⟩
  obtain ⟨q, hq⟩ : ∃ q, q = v % 256 := ⟨_, rfl⟩
  have hp2 : p < 256 := by omega
  have hq2 : q < 256 := by omega
  have HV : Hid (256 * p + q = v) := by show _ = _; omega
  have hp1 : IntKind.u8.wrap ((v : Int) / 256) = (p : Int) := by rw [hp]; exact u8_hi v hv2
  have hq1 : IntKind.u8.wrap (v : Int) = (q : Int) := by rw [hq]; exact u8_lo v
  obtain ⟨N, hN⟩ : ∃ N, N = 2 * n := ⟨_, rfl⟩
  have hN2 : 2 * (n : Int) = (N : Int) := by omega
  have HN : Hid (N = 2 * n) := hN
  have hN3 : N ≤ 2097152 := by omega
  have hN4 : 2 ≤ N := by omega
  clear ht hp hq hN
  go_wp2_with (first | (at_make; refine wpList_make_full _ rfl _ _ 25 rfl w.heap.size 5 i0 (.int .u8 0) 1 Try.underlying25 hi hz0 hz1 .i64 .i64 _ _ N rfl rfl rfl rfl (by rw [hz2]; omega) (by unfold maxLen; omega) hb1.size ?_; intro w2 hown2 hgrow2))
  have hb2 : Below w.heap.size w w2 := hb1.grown hgrow2 hb1.size (by intro k hk; cases hk)
  have ho2 : OwnB w2 w.heap.size (.slice (some ⟨wc.heap.size, 0, none⟩) N N) N (mid p q n 0) := by
    rw [show (Value.int IntKind.u8 0).cells = #[Value.int IntKind.u8 0] from rfl, toList_madeCells_one, Nat.mul_one] at hown2
    rw [OwnB, mid_zero, ← HN.out]
    simpa [toI] using hown2
  have hgB := hb1.size
  obtain ⟨g, hg⟩ : ∃ g, g = wc.heap.size := ⟨_, rfl⟩
  rw [← hg] at ho2 hgB ⊢
  clear hown2 hgrow2 hb1 hg
  go_loopw [8] (fun ix wr => ∃ k : Nat, k ≤ n ∧ ix = .int .i64 k ∧ OwnB wr w.heap.size (.slice (some ⟨g, 0, none⟩) N N) N (mid p q n k) ∧ Below w.heap.size w wr) (fun ix _ => n - (intOf ix).toNat)
  case atStart => exact ⟨0, by omega, rfl, ho2, hb2⟩
  case round =>
    obtain ⟨k, hk, rfl, ho, hbel⟩ := hrel
    clear ho2 hb2
    by_cases hlt : k < n
    · have hl := ho.len
      have hkN : 2 * k + 1 < N := by have := HN.out; omega
      have c0 : wr.cell? ⟨g, 2 * k, none⟩ = some (.int .u8 (((mid p q n k).getD (2 * k) 0 : Nat) : Int)) := by
        rw [ho.cellAt (2 * k) (by omega)]; simp [toI, List.getD, show 2 * k < (mid p q n k).length by omega]
      have hs1 := ho.stored (2 * k) (.int .u8 (p : Int))
      have c1 : (wr.setCell ⟨g, 2 * k, none⟩ (.int .u8 (p : Int))).cell? ⟨g, 2 * k + 1, none⟩ = some (.int .u8 (((mid p q n k).getD (2 * k + 1) 0 : Nat) : Int)) := by
        rw [World.cell?_setCell_other _ _ _ _ (by simp), ho.cellAt (2 * k + 1) (by omega)]; simp [toI, List.getD, show 2 * k + 1 < (mid p q n k).length by omega]
      have hs2 := hs1.1.stored (2 * k + 1) (.int .u8 (q : Int))
      rw [toI_set, toI_set, mid_set p q n k hlt] at hs2
      have f0 := ho.frozenAt (2 * k)
      have f1 := hs1.1.frozenAt (2 * k + 1)
      have HS : Hid (_ ∧ _) := hs2
      have HG : Hid (wr.grownBy _ _) := hs1.2
      obtain ⟨x, hx⟩ : ∃ x, x = (mid p q n k).getD (2 * k) 0 := ⟨_, rfl⟩
      obtain ⟨y, hy⟩ : ∃ y, y = (mid p q n k).getD (2 * k + 1) 0 := ⟨_, rfl⟩
      rw [← hx] at c0
      rw [← hy] at c1
      clear hs1 hs2 hx hy hl ho
      go_wp2
      go_roundw
      case rel => exact ⟨k + 1, by omega, by go_num, HS.out.1, hbel.grown (grown_trans HG.out HS.out.2) hbel.size (by intro j hj; simp at hj; omega)⟩
      case measure => simp [intOf]; omega
    · obtain rfl : k = n := by omega
      rw [mid_all] at ho
      have hwv : S.wv false (rep p q k) = t := by rw [rep_wv, HV.out, HT.out]
      have hl256 := rep_lt p q k hp2 hq2
      obtain ⟨l, hl⟩ : ∃ l, l = rep p q k := ⟨_, rfl⟩
      rw [← hl] at hwv ho hl256
      clear hl
      have hfl := S.fold_le t
      obtain ⟨f, hf⟩ : ∃ f, f = S.fold t := ⟨_, rfl⟩
      have HF : Hid (S.fold (S.wv false l) = f) := by show _ = _; rw [hwv]; exact hf.symm
      have HF2 : Hid (f = S.fold t) := hf
      rw [← hf] at hfl
      clear hf hwv
      have hts : t < 9223372036854775807 := Nat.lt_of_le_of_lt ht2 (by decide)
      go_wp2_with fail
      refine (folded_any t _ hts).mono ?_
      rintro e w3 ⟨rfl, rfl⟩
      rw [← HF2.out]
      clear hts ht2 hmul
      go_upto_region 12 with fail
      go_cut [67] (fun b wx => b = .bool false ∧ OwnB wx w.heap.size (.slice (some ⟨g, 0, none⟩) N N) N l ∧ Below w.heap.size w wx)
      case first =>
        go_wp2_with fail
        refine (sum_one _ _ (some ⟨g, 0, none⟩) N N l rfl ho.len (ho.part hl256) (by omega)).mono ?_
        rintro e w3 ⟨rfl, hb3⟩
        rw [HF.out]
        have ho3 := OwnB.below ho hb3
        have hb03 := hbel.trans (hb3.mono hbel.size)
        clear ho hbel hb3
        have hff : ((f : Int) != (f : Int)) = false := by simp
        go_wp2_with fail
        refine (check_one _ _ (some ⟨g, 0, none⟩) N N l rfl ho3.len (ho3.part hl256) (by omega)).mono ?_
        rintro e w4 ⟨rfl, hb4⟩
        rw [HF.out]
        have ho4 := OwnB.below ho3 hb4
        have hb04 := hb03.trans (hb4.mono hb03.size)
        clear ho3 hb03 hb4
        have hfg : (((65535 - f : Nat) : Int) != 65535 - (f : Int)) = false := by simp; omega
        go_wp2_with fail
        refine (good_one _ _ (some ⟨g, 0, none⟩) N N l rfl ho4.len (ho4.part hl256) (by omega)).mono ?_
        rintro e w5 ⟨rfl, hb5⟩
        rw [HF.out]
        have ho5 := OwnB.below ho4 hb5
        have hb05 := hb04.trans (hb5.mono hb04.size)
        clear ho4 hb04 hb5
        have HFD : Hid ((decide (f = 65535) == ((f : Int) == 65535)) = true) := by
          show _ = _
          by_cases h : f = 65535
          · subst h; rfl
          · have : ((f : Int) == 65535) = false := by simp; omega
            simp [h, this]
        go_wp2
        go_meet
        exact ⟨by rw [HFD.out]; rfl, ho5, hb05⟩
      case rest =>
      obtain ⟨rfl, ho3, hb3⟩ := hcut
      clear ho hbel
      have HLN : Hid (l.length = N) := ho3.len
      go_upto_region 14 with fail
      go_cut [2] (fun s2 wx => ∃ s : Nat, s2 = .int .i64 s ∧ 1 ≤ s ∧ s ≤ N ∧ OwnB wx w.heap.size (.slice (some ⟨g, 0, none⟩) N N) N l ∧ Below w.heap.size w wx)
      case first =>
        by_cases c1 : a2 < 1 + (N : Int) / 3000
        · have c1' : decide (a2 < 1 + (N : Int) / 3000) = true := decide_eq_true c1
          go_wp2
          all_goals (go_meet; exact ⟨1 + N / 3000, by go_num, by omega, by omega, ho3, hb3⟩)
        · have c1' : decide (a2 < 1 + (N : Int) / 3000) = false := decide_eq_false c1
          obtain ⟨b1, rfl⟩ : ∃ b : Nat, a2 = b := ⟨a2.toNat, by omega⟩
          by_cases c2 : N < b1
          · go_wp2
            all_goals (go_meet; exact ⟨N, rfl, by omega, by omega, ho3, hb3⟩)
          · go_wp2
            all_goals (go_meet; exact ⟨b1, rfl, by omega, by omega, ho3, hb3⟩)
      case rest =>
      obtain ⟨s, rfl, hs1, hs2, ho4, hb4⟩ := hcut
      clear ho3 hb3
      obtain ⟨j0, hj, hy0, hy1, hy2⟩ := info_parts Try.infoBytes
      go_wp2
      go_loopw [10, 11] (fun pv ix wq => ∃ (ps : List Part) (a : Nat), ix = .int .i64 a ∧ a ≤ N + s ∧ ps.length ≤ a ∧ wq.ownsRow w.heap.size 25 1 pv ps.length (ps.map Part.val) ∧ Hid (∀ p ∈ ps, Piece g N l p) ∧ Hid (allB ps = l.take a) ∧ OwnB wq w.heap.size (.slice (some ⟨g, 0, none⟩) N N) N l ∧ Below w.heap.size w wq) (fun _ ix _ => N + s - (intOf ix).toNat)
      case atStart => exact ⟨[], 0, rfl, by omega, by simp, World.ownsRow_nil _ _ _ _, (fun p hp => by cases hp), by show _ = _; simp [allB], ho4, hb4⟩
      case round =>
        obtain ⟨ps, a, rfl, ha, hpa, hop, HPI, HPS, ho5, hb5⟩ := hrel
        clear ho4 hb4
        by_cases hlt : a < N
        · by_cases hmin : a + s ≤ N
          · have hce : (a : Int) + s ≤ N := by omega
            have hce2 : ¬ N = a := by omega
            have hpc : Piece g N l ⟨some ⟨g, a, none⟩, N - a, (l.drop a).take s⟩ := ⟨a, s, rfl, by rw [HLN.out]; omega⟩
            have hpl : ((l.drop a).take s).length = s := by rw [List.length_take, List.length_drop, HLN.out]; omega
            have hpv : (ps ++ [Part.mk (some ⟨g, a, none⟩) (N - a) ((l.drop a).take s)]).map Part.val = ps.map Part.val ++ [.slice (some ⟨g, a, none⟩) s (N - a)] := by rw [List.map_append, List.map_cons, List.map_nil, Part.val, hpl]
            have HPV : Hid _ := hpv
            have HPA : Hid (allB (ps ++ [⟨some ⟨g, a, none⟩, N - a, (l.drop a).take s⟩]) = l.take (a + s)) := by
              show _ = _
              have e := HPS.out
              unfold allB at *
              rw [List.flatMap_append, e]
              simp only [List.flatMap_cons, List.flatMap_nil, List.append_nil]
              rw [← List.take_add]
            have HPC : Hid _ := hpc
            clear hpv hpl hpc
            go_wp2_with (first | (at_builtin; refine wpList_append_own _ rfl (.tmp 84) (.tmp 94) 43 rfl w.heap.size 25 j0 (.slice none 0 0) 1 24 Try.underlying43 hj hy0 hy1 hy2 rfl (by decide) _ _ _ rfl (hop.alloc _) ⟨wr.heap.size, 0, none⟩ 1 1 [.slice (some ⟨g, a, none⟩) s (N - a)] rfl rfl ?c1 ?c2 ?c3 ?c4 ?c5 ?_))
            case c1 => exact cell_one_new _ _ _
            case c2 => intro u hu; simp at hu; subst hu; rfl
            case c3 => unfold maxLen; omega
            case c4 => omega
            case c5 => have := hb5.size; simp; omega
            intro v6 w6 ho6 hg6 _
            have hap := own_apart (ho5.alloc (.cells #[.slice (some ⟨g, a, none⟩) s (N - a)] 25)) (hop.alloc (.cells #[.slice (some ⟨g, a, none⟩) s (N - a)] 25)) (by decide)
            have ho7 : OwnB w6 w.heap.size (.slice (some ⟨g, 0, none⟩) N N) N l := (ho5.alloc _).kept hg6 hap
            have hb7 : Below w.heap.size w w6 := (hb5.alloc hb5.size _).grown hg6 (by have := hb5.size; simp; omega) (fun j hj => (hop.lt j hj).1)
            rw [← HPV.out] at ho6
            clear hg6 hap hop ho5 hb5
            go_wp2
            go_roundw
            case rel => exact ⟨ps ++ [⟨some ⟨g, a, none⟩, N - a, (l.drop a).take s⟩], a + s, by go_num, by omega, by simp; omega, by rw [List.length_append]; exact ho6, (fun p hp => by rcases List.mem_append.1 hp with hp | hp; exact HPI.out p hp; simp at hp; subst hp; exact HPC.out), HPA, ho7, hb7⟩
            case measure => simp [intOf]; omega
          · have hce : (N : Int) < (a : Int) + s := by omega
            have hce2 : ¬ N = a := by omega
            have hpc : Piece g N l ⟨some ⟨g, a, none⟩, N - a, (l.drop a).take (N - a)⟩ := ⟨a, (N - a), rfl, by rw [HLN.out]; omega⟩
            have hpl : ((l.drop a).take (N - a)).length = (N - a) := by rw [List.length_take, List.length_drop, HLN.out]; omega
            have hpv : (ps ++ [Part.mk (some ⟨g, a, none⟩) (N - a) ((l.drop a).take (N - a))]).map Part.val = ps.map Part.val ++ [.slice (some ⟨g, a, none⟩) (N - a) (N - a)] := by rw [List.map_append, List.map_cons, List.map_nil, Part.val, hpl]
            have HPV : Hid _ := hpv
            have HPA : Hid (allB (ps ++ [⟨some ⟨g, a, none⟩, N - a, (l.drop a).take (N - a)⟩]) = l.take (a + s)) := by
              show _ = _
              have e := HPS.out
              unfold allB at *
              rw [List.flatMap_append, e]
              simp only [List.flatMap_cons, List.flatMap_nil, List.append_nil]
              rw [← List.take_add, List.take_of_length_le (by rw [HLN.out]; omega), List.take_of_length_le (by rw [HLN.out]; omega)]
            have HPC : Hid _ := hpc
            clear hpv hpl hpc
            go_wp2_with (first | (at_builtin; refine wpList_append_own _ rfl (.tmp 84) (.tmp 94) 43 rfl w.heap.size 25 j0 (.slice none 0 0) 1 24 Try.underlying43 hj hy0 hy1 hy2 rfl (by decide) _ _ _ rfl (hop.alloc _) ⟨wr.heap.size, 0, none⟩ 1 1 [.slice (some ⟨g, a, none⟩) (N - a) (N - a)] rfl rfl ?c1 ?c2 ?c3 ?c4 ?c5 ?_))
            case c1 => exact cell_one_new _ _ _
            case c2 => intro u hu; simp at hu; subst hu; rfl
            case c3 => unfold maxLen; omega
            case c4 => omega
            case c5 => have := hb5.size; simp; omega
            intro v6 w6 ho6 hg6 _
            have hap := own_apart (ho5.alloc (.cells #[.slice (some ⟨g, a, none⟩) (N - a) (N - a)] 25)) (hop.alloc (.cells #[.slice (some ⟨g, a, none⟩) (N - a) (N - a)] 25)) (by decide)
            have ho7 : OwnB w6 w.heap.size (.slice (some ⟨g, 0, none⟩) N N) N l := (ho5.alloc _).kept hg6 hap
            have hb7 : Below w.heap.size w w6 := (hb5.alloc hb5.size _).grown hg6 (by have := hb5.size; simp; omega) (fun j hj => (hop.lt j hj).1)
            rw [← HPV.out] at ho6
            clear hg6 hap hop ho5 hb5
            go_wp2
            go_roundw
            case rel => exact ⟨ps ++ [⟨some ⟨g, a, none⟩, N - a, (l.drop a).take (N - a)⟩], a + s, by go_num, by omega, by simp; omega, by rw [List.length_append]; exact ho6, (fun p hp => by rcases List.mem_append.1 hp with hp | hp; exact HPI.out p hp; simp at hp; subst hp; exact HPC.out), HPA, ho7, hb7⟩
            case measure => simp [intOf]; omega
        · have HLL : Hid (allB ps = l) := by have e := HPS.out; rw [List.take_of_length_le (by rw [HLN.out]; omega)] at e; exact e
          obtain ⟨pa, pc, rfl⟩ := owns_shape hop
          have hok : ∀ p ∈ ps, p.ok wr := fun p hp => (HPI.out p hp).ok ho5 hl256
          have hparts := parts_own hop hok
          have hisw : isW (65535 - (f : Int)) = true := by simp [isW]; omega
          have hfn : fbN (65535 - (f : Int)) l l = ((S.fixB (65535 - f) l l : Nat) : Int) := by
            rw [fbN, if_pos hisw, if_pos rfl]
            congr 2
            omega
          have hfe : fbE (65535 - (f : Int)) l l = 0 := by rw [fbE, if_pos hisw, if_pos rfl]
          have hsame : v ≠ 0 → S.fixB (65535 - f) l l = 65535 - f := by
            intro h0
            have hf0 : f ≠ 0 := by
              rw [HF2.out]
              intro h
              rw [S.fold_zero, HT.out] at h
              rcases Nat.mul_eq_zero.1 h with h | h <;> omega
            exact fixB_same _ (by omega) l hl256
          have HFN : Hid _ := hfn
          have HFE : Hid _ := hfe
          have HSM : Hid _ := hsame
          obtain ⟨x, hx⟩ : ∃ x, x = S.fixB (65535 - f) l l := ⟨_, rfl⟩
          rw [← hx] at HFN HSM
          have HPN : Hid (S.fold (S.wv false (allB ps)) = f) := by rw [HLL.out]; exact HF
          clear hisw hfn hfe hsame hx
          have hpl : (allB ps).length ≤ 1099511627776 := by rw [HLL.out, HLN.out]; omega
          go_wp2_with fail
          refine (fixBytes_any (65535 - (f : Int)) (some ⟨g, 0, none⟩) (some ⟨g, 0, none⟩) N N N N l l _ HLN.out HLN.out (ho5.part hl256) (ho5.part hl256) (by omega)).mono ?_
          rintro e w6 ⟨rfl, hb6⟩
          rw [HFN.out, HFE.out]
          have hb06 := hb5.trans (hb6.mono hb5.size)
          have hparts6 := parts_own (own_below hop hb6) (fun p hp => (hok p hp).old hb6)
          clear hparts hok
          go_wp2_with fail
          refine (sum_any pa ps.length pc ps _ rfl hparts6 hpl (by omega)).mono ?_
          rintro e w7 ⟨rfl, hb7⟩
          rw [HPN.out]
          have hb07 := hb06.trans (hb7.mono hb06.size)
          have hparts7 := parts_own (own_below (own_below hop hb6) hb7) (fun p hp => (hparts6.2 p hp).old hb7)
          have hff : ((f : Int) == (f : Int)) = true := by simp
          clear hb06
          go_wp2_with fail
          refine (good_any pa ps.length pc ps _ rfl hparts7 hpl (by omega)).mono ?_
          rintro e w8 ⟨rfl, hb8⟩
          rw [HPN.out]
          have hb08 := hb07.trans (hb8.mono hb07.size)
          clear hb07 hb7 hb6 hparts6 hparts7 hop ho5 hb5
          have hfd : (decide (f = 65535) == ((f : Int) == 65535)) = true := by
            by_cases h : f = 65535
            · subst h; rfl
            · have : ((f : Int) == 65535) = false := by simp; omega
              simp [h, this]
          by_cases hv0 : v = 0
          · subst hv0
            by_cases h65 : f = 65535
            · subst h65
              go_wp2
              go_ret
              exact ⟨rfl, hb08⟩
            · have h1 : ((f : Int) == 65535) = false := by simp; omega
              have h2 : decide (f = 65535) = false := by simp [h65]
              go_wp2
              go_ret
              exact ⟨rfl, hb08⟩
          · have h0 : ((v : Int) == 0) = false := by simp; omega
            have hxe := HSM.out hv0
            have hxx : ((x : Int) == 65535 - (f : Int)) = true := by simp; omega
            clear hxe
            by_cases h65 : f = 65535
            · subst h65
              have h3 : x = 0 := by have := HSM.out hv0; omega
              subst h3
              go_wp2
              go_ret
              exact ⟨rfl, hb08⟩
            · have h1 : ((f : Int) == 65535) = false := by simp; omega
              have h2 : decide (f = 65535) = false := by simp [h65]
              go_wp2
              go_ret
              exact ⟨rfl, hb08⟩
end Go.Proofs.Ytfnmidaiabjpbaa.sumLong
