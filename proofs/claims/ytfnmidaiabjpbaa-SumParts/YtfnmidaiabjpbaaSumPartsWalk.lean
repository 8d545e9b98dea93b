/-
  The walk of SumParts: it answers true, whatever it is handed, and writes nothing that was there.
-/
import Derived.Test.YtfnmidaiabjpbaaSum6
import Derived.Deep.DeepCutAuto
import Derived.Test.YtfnmidaiabjpbaaMix
namespace Go.Proofs.Ytfnmidaiabjpbaa.sumParts
open Go.RowKit

section
variable (w : World) (B : Nat) (a1 a2 : Option Addr) (n1 n2 c1 c2 : Nat) (l1 l2 : List Nat) (f : Nat)
theorem sum_two (hB : B = w.heap.size) (hl1 : l1.length = n1) (hl2 : l2.length = n2) (h1 : Part.ok w ⟨a1, c1, l1⟩) (h2 : Part.ok w ⟨a2, c2, l2⟩) (hs : n1 + n2 ≤ 1099511627776) (hf : S.fold (S.wv false (l1 ++ l2)) = f) :
    Calls Try.prog 14 #[.slice (some ⟨B, 0, none⟩) 2 2] (w.alloc (.cells #[.slice a1 n1 c1, .slice a2 n2 c2] 25)) fun e w' => e = .returned (.int .i64 (f : Int)) ∧ Below w.heap.size w w' := by
  subst hB hl1 hl2 hf
  have := sum_any (some ⟨w.heap.size, 0, none⟩) 2 2 [⟨a1, c1, l1⟩, ⟨a2, c2, l2⟩] _ rfl (parts_new w [⟨a1, c1, l1⟩, ⟨a2, c2, l2⟩] 25 (by intro p hp; simp at hp; rcases hp with rfl | rfl; exact h1; exact h2)) (by simp [allB]; omega) (by omega)
  simp only [allB, List.flatMap_cons, List.flatMap_nil, List.append_nil] at this
  exact this.mono (fun e w' h => ⟨h.1, below_new h.2⟩)
theorem nil_ok : Part.ok w ⟨none, 0, []⟩ := ⟨.inl rfl, (fun x hx => by cases hx), Nat.le_refl _, by show 0 ≤ _; omega⟩
theorem sum_four (hB : B = w.heap.size) (hl1 : l1.length = n1) (hl2 : l2.length = n2) (h1 : Part.ok w ⟨a1, c1, l1⟩) (h2 : Part.ok w ⟨a2, c2, l2⟩) (hs : n1 + n2 ≤ 1099511627776) (hf : S.fold (S.wv false (l1 ++ l2)) = f) :
    Calls Try.prog 14 #[.slice (some ⟨B, 0, none⟩) 4 4] (w.alloc (.cells #[.slice none 0 0, .slice a1 n1 c1, .slice none 0 0, .slice a2 n2 c2] 25)) fun e w' => e = .returned (.int .i64 (f : Int)) ∧ Below w.heap.size w w' := by
  subst hB hl1 hl2 hf
  have := sum_any (some ⟨w.heap.size, 0, none⟩) 4 4 [⟨none, 0, []⟩, ⟨a1, c1, l1⟩, ⟨none, 0, []⟩, ⟨a2, c2, l2⟩] _ rfl (parts_new w [⟨none, 0, []⟩, ⟨a1, c1, l1⟩, ⟨none, 0, []⟩, ⟨a2, c2, l2⟩] 25 (by intro p hp; simp at hp; rcases hp with rfl | rfl | rfl | rfl; exact nil_ok w; exact h1; exact nil_ok w; exact h2)) (by simp [allB]; omega) (by omega)
  simp only [allB, List.flatMap_cons, List.flatMap_nil, List.append_nil, List.nil_append] at this
  exact this.mono (fun e w' h => ⟨h.1, below_new h.2⟩)
end

theorem cut_sum (l : List Nat) (k f : Nat) (hf : S.fold (S.wv false l) = f) : S.fold (S.wv false (l.take k ++ l.drop k)) = f := by rw [List.take_append_drop]; exact hf
theorem turn_sum (l : List Nat) (i f : Nat) (hi : i % 2 = 0) (hil : i ≤ l.length) (hl : l.length % 2 = 0) (hf : S.fold (S.wv false l) = f) : S.fold (S.wv false (l.drop i ++ l.take i)) = f := by
  rw [← hf]
  conv => rhs; rw [← List.take_append_drop i l]
  rw [wv_even_append _ _ (by simp; omega), wv_even_append _ _ (by simp; omega), Nat.add_comm]

/-- the first bytes of a row of the call's own; the others -/
theorem head_ok {w : World} {B g n c k : Nat} {l : List Nat} (h : OwnB w B (.slice (some ⟨g, 0, none⟩) n c) n l) (h256 : ∀ x ∈ l, x < 256) (hk : k ≤ n) : Part.ok w ⟨some ⟨g, 0, none⟩, c, l.take k⟩ := by
  obtain ⟨hs, h1, h2⟩ := owns_seg_at h
  have hn := h.len
  refine ⟨?_, fun x hx => h256 x (List.mem_of_mem_take hx), ?_, h2⟩
  · have := hs.part0 k (by rw [toI_len]; omega)
    rwa [toI_take] at this
  · show (l.take k).length ≤ c
    simp; omega
theorem tail_ok {w : World} {B g n c k : Nat} {l : List Nat} (h : OwnB w B (.slice (some ⟨g, 0, none⟩) n c) n l) (h256 : ∀ x ∈ l, x < 256) (hk : k ≤ n) : Part.ok w ⟨some ⟨g, k, none⟩, c - k, l.drop k⟩ := by
  obtain ⟨hs, h1, h2⟩ := owns_seg_at h
  have hn := h.len
  refine ⟨?_, fun x hx => h256 x (List.mem_of_mem_drop hx), ?_, ?_⟩
  · have := seg_tail hs k (by omega)
    simp only [Option.map_some, Addr.add_lit, Nat.zero_add] at this
    exact this
  · show (l.drop k).length ≤ c - k
    simp; omega
  · show c - k ≤ _
    omega
theorem tail_ok0 {w : World} {B g n c k : Nat} {l : List Nat} (h : OwnB w B (.slice (some ⟨g, 0, none⟩) n c) n l) (hc : c = k) (hk : k ≤ n) : Part.ok w ⟨some ⟨g, 0, none⟩, 0, l.drop k⟩ := by
  obtain ⟨hs, h1, h2⟩ := owns_seg_at h
  have hn := h.len
  have e : l.drop k = [] := List.drop_of_length_le (by omega)
  rw [e]
  exact ⟨.inl rfl, (fun x hx => by cases hx), Nat.le_refl _, by show 0 ≤ _; omega⟩

/-- the halves of the words exchanged -/
def swp : List Nat → List Nat
  | a :: b :: l => b :: a :: swp l
  | l => l
theorem swp_app2 (l : List Nat) (k x y : Nat) (h : l.length = 2 * k) : swp (l ++ [x, y]) = swp l ++ [y, x] := by
  induction k generalizing l with
  | zero =>
    have e : l = [] := List.eq_nil_of_length_eq_zero (by omega)
    subst e; rfl
  | succ k ih =>
    match l, h with
    | a :: b :: l, h =>
      simp only [List.cons_append, swp, List.cons.injEq, true_and]
      exact ih l (by simp at h; omega)
theorem swp_len (l : List Nat) : (swp l).length = l.length := by
  match l with
  | [] => rfl
  | [a] => rfl
  | a :: b :: l => simp [swp, swp_len l]
theorem swp_wv (l : List Nat) (h : l.length % 2 = 0) : S.wv false (swp l) = S.wv true l := by
  match l, h with
  | [], _ => rfl
  | a :: b :: l, h =>
    have ih := swp_wv l (by simp at h; omega)
    simp only [swp, S.wv, ih]
    omega
theorem swp_lt (l : List Nat) (h : ∀ x ∈ l, x < 256) : ∀ x ∈ swp l, x < 256 := by
  match l with
  | [] => intro x hx; cases hx
  | [a] => exact h
  | a :: b :: l =>
    have ih := swp_lt l (fun x hx => h x (by simp [hx]))
    intro x hx
    simp only [swp, List.mem_cons] at hx
    rcases hx with rfl | rfl | hx
    · exact h _ (by simp)
    · exact h _ (by simp)
    · exact ih x hx
theorem swp_sum (l : List Nat) (f : Nat) (h : l.length % 2 = 0) (hf : S.fold (S.wv false l) = f) : S.fold (S.wv false (swp l)) = S.xch f := by
  rw [swp_wv l h, ← hf]
  exact S.xch_fold _ _ (S.wv_xch l) ⟨fun e => S.wv_zeros _ l (S.wv_zero _ l e), fun e => S.wv_zeros _ l (S.wv_zero _ l e)⟩
/-- behind j bytes (an even number) -/
def half (l : List Nat) (j : Nat) : List Nat := swp (l.take j) ++ l.drop j
theorem half_len (l : List Nat) (j : Nat) : (half l j).length = l.length := by simp [half, swp_len]; omega
theorem half_at (l : List Nat) (j d : Nat) (h : j + d < l.length) : (half l j).getD (j + d) 0 = l.getD (j + d) 0 := by
  unfold half
  have e : (swp (l.take j)).length = j := by rw [swp_len]; simp; omega
  simp only [List.getD]
  rw [List.getElem?_append_right (by omega), e, show j + d - j = d by omega, List.getElem?_drop]
theorem half_step (l : List Nat) (j : Nat) (hj : j % 2 = 0) (h : j + 1 < l.length) : ((half l j).set j (l.getD (j + 1) 0)).set (j + 1) (l.getD j 0) = half l (j + 2) := by
  have e : (swp (l.take j)).length = j := by rw [swp_len]; simp; omega
  have hd : l.drop j = l.getD j 0 :: l.getD (j + 1) 0 :: l.drop (j + 2) := by
    rw [List.drop_eq_getElem_cons (show j < l.length by omega), List.drop_eq_getElem_cons h]
    simp [List.getD, h, show j < l.length by omega]
  have ht : l.take (j + 2) = l.take j ++ [l.getD j 0, l.getD (j + 1) 0] := by
    rw [List.take_add, hd]
    rfl
  unfold half
  rw [hd, ht, swp_app2 (l.take j) (j / 2) _ _ (by simp; omega)]
  rw [List.set_append_right _ _ (by omega), e, Nat.sub_self, List.set_append_right _ _ (by omega), e, show j + 1 - j = 1 by omega]
  simp
theorem xch_or (f : Nat) (hf : f ≤ 65535) : bits .or .i64 ((f : Int) / 256) (((f % 256 : Nat) : Int) * 256) = ((S.xch f : Nat) : Int) := by
  have e1 : ((f : Int) / 256) = ((f / 256 : Nat) : Int) := by simp
  have e2 : (((f % 256 : Nat) : Int) * 256) = ((256 * (f % 256) : Nat) : Int) := by omega
  have h2 := Nat.two_pow_add_eq_or_of_lt (i := 8) (b := f / 256) (by omega) (f % 256)
  rw [e1, e2]
  have key : (BitVec.ofInt 64 ((f / 256 : Nat) : Int) ||| BitVec.ofInt 64 ((256 * (f % 256) : Nat) : Int)).toNat = f / 256 ||| 256 * (f % 256) := by
    rw [BitVec.toNat_or, BitVec.toNat_ofInt, BitVec.toNat_ofInt]
    congr 1 <;> omega
  show IntKind.i64.wrap ((BitVec.ofInt 64 ((f / 256 : Nat) : Int) ||| BitVec.ofInt 64 ((256 * (f % 256) : Nat) : Int)).toNat : Nat) = _
  have h3 : f / 256 ||| 256 * (f % 256) = 256 * (f % 256) + f / 256 := by rw [Nat.or_comm]; exact h2.symm
  rw [key, h3, IntKind.wrap_i64]
  unfold S.xch
  omega
theorem i64_and255 (n : Nat) : bits .and .i64 (n : Int) 255 = ((n % 256 : Nat) : Int) := by
  have h : (BitVec.ofInt 64 255).toNat = 2 ^ 8 - 1 := by decide
  have key : (BitVec.ofInt 64 (n : Int) &&& BitVec.ofInt 64 255).toNat = ((n : Int) % ((2 ^ 64 : Nat) : Int)).toNat % 2 ^ 8 := by
    rw [BitVec.toNat_and, BitVec.toNat_ofInt, h, Nat.and_two_pow_sub_one_eq_mod]
  show IntKind.i64.wrap ((BitVec.ofInt 64 (n : Int) &&& BitVec.ofInt 64 255).toNat : Nat) = _
  rw [key, IntKind.wrap_i64]
  omega
theorem tail_ok' {w : World} {B g n c k : Nat} {l : List Nat} (h256 : ∀ x ∈ l, x < 256) (hk : k ≤ n) (h : OwnB w B (.slice (some ⟨g, 0, none⟩) n c) n l) : Part.ok w ⟨some ⟨g, k, none⟩, c - k, l.drop k⟩ := tail_ok h h256 hk
theorem tail_ok0' {w : World} {B g n c k : Nat} {l : List Nat} (hc : c = k) (hk : k ≤ n) (h : OwnB w B (.slice (some ⟨g, 0, none⟩) n c) n l) : Part.ok w ⟨some ⟨g, 0, none⟩, 0, l.drop k⟩ := tail_ok0 h hc hk
set_option maxHeartbeats 1600000 in
set_option maxRecDepth 100000 in
theorem walk (a0 : Option Addr) (len0 cap0 : Nat) (z0 : List Int) (a1 a2 : Int) (w : World) (w0 : IsRow .u8 w a0 len0 cap0 z0) (w1 : (Lit.int .i64 a1).wf = true) (w2 : (Lit.int .i64 a2).wf = true) :
    Calls Try.prog 4 #[.slice a0 len0 cap0, .int .i64 a1, .int .i64 a2] w fun e w' => e = .returned (.bool true) ∧ Below w.heap.size w w' := by
  obtain ⟨bs, rfl, hb, h1, h2, h256⟩ := w0.bytes
  have ha : (-9223372036854775808 ≤ a1 ∧ a1 ≤ 9223372036854775807) ∧ (-9223372036854775808 ≤ a2 ∧ a2 ≤ 9223372036854775807) := by
    simp [Lit.wf, IntKind.min, IntKind.max, IntKind.bits, IntKind.signed] at w1 w2
    omega
  obtain ⟨⟨ha1, ha2⟩, ha3, ha4⟩ := ha
  clear w0 w1 w2
  go_enter Try.func4, Try.ntmps4
  go_wp2_with fail
  refine (even_n a0 bs.length cap0 bs w rfl hb h256 h1 h2).mono ?_
  rintro e w1 ⟨v, n, m, rfl, ho, hn, HN, hm256, hb1⟩
  clear hb h256
  by_cases hn0 : n = 0
  · obtain ⟨va, vc, rfl⟩ := owns_shape ho
    subst hn0
    go_wp2_with fail
    refine (awake_any _).mono ?_
    rintro e w2 ⟨rfl, hb2⟩
    go_wp2
    go_ret
    exact ⟨rfl, bthen hb1 hb2⟩
  · obtain ⟨g, c, rfl, hgB, hgs⟩ := own_form ho (by omega)
    have hkn : ((n : Int) == 0) = false := by simp; omega
    have hnc := (owns_seg_at ho).2.1
    have hcm := (owns_seg_at ho).2.2
    go_wp2_with fail
    refine (awake_any _).mono ?_
    rintro e w2 ⟨rfl, hb2⟩
    have ho2 := OwnB.below ho hb2
    have hb02 := bthen hb1 hb2
    clear ho hb1 hb2
    obtain ⟨f, hf⟩ : ∃ f, f = S.fold (S.wv false m) := ⟨_, rfl⟩
    have HF : Hid (S.fold (S.wv false m) = f) := hf.symm
    have hfl : f ≤ 65535 := by rw [hf]; exact S.fold_le _
    have HL : Hid (m.length = n) := ho2.len
    clear hf
    go_wp2_with fail
    refine (sum_one _ _ (some ⟨g, 0, none⟩) n c m rfl HL.out (ho2.part hm256) (by omega)).mono ?_
    rintro e w3 ⟨rfl, hb3⟩
    rw [HF.out]
    have ho3 := OwnB.below ho2 hb3
    have hb03 := bthen hb02 hb3
    clear ho2 hb02 hb3
    go_wp2_with fail
    refine (place_n _ c n a1 _ HN (by omega) (by omega) ha1 ha2).mono ?_
    rintro e w4 ⟨i, rfl, HI, hi2, rfl⟩
    go_upto_if 30 with fail
    go_cut [9] (fun s9 wx => ∃ b : Int, s9 = .int .i64 b ∧ 0 ≤ b ∧ b ≤ 9223372036854775807 ∧ wx = w3)
    case first =>
      by_cases hneg : a2 < 0
      · go_wp2
        all_goals (go_meet; exact ⟨-(a2 + 1), rfl, by omega, by omega, rfl⟩)
      · go_wp2
        all_goals (go_meet; exact ⟨a2, rfl, by omega, by omega, rfl⟩)
    case rest =>
    obtain ⟨b, rfl, hb0, hb9, rfl⟩ := hcut
    have hkk : ∃ k : Nat, b % ((n : Int) + 1) = (k : Int) ∧ k ≤ n := by
      have h1 := Int.emod_nonneg b (show ((n : Int) + 1) ≠ 0 by omega)
      have h2 := Int.emod_lt_of_pos b (show (0 : Int) < (n : Int) + 1 by omega)
      exact ⟨(b % ((n : Int) + 1)).toNat, by omega, by omega⟩
    obtain ⟨k, hk1, hk2⟩ := hkk
    go_upto_region 10 with fail
    have k0 : (0 : Int) ≤ (k : Int) := by omega
    have k1 : (k : Int) ≤ (n : Int) := by omega
    have k2 : (n : Int) ≤ (c : Int) := by omega
    have k3 : (k : Int) ≤ (c : Int) := by omega
    have i1 : (i : Int) ≤ (n : Int) := by omega
    have i2 : (i : Int) ≤ (c : Int) := by omega
    have i3 : ¬ c = i := by omega
    have hff : ((f : Int) != (f : Int)) = false := by simp
    have HL1 : Hid ((m.take k).length = k) := by show _ = _; simp [HL.out]; omega
    have HL2 : Hid ((m.drop k).length = n - k) := by show _ = _; simp [HL.out]
    have HI1 : Hid ((m.take i).length = i) := by show _ = _; simp [HL.out]; omega
    have HI2 : Hid ((m.drop i).length = n - i) := by show _ = _; simp [HL.out]
    rw [hk1]
    go_cut [72] (fun s wx => s = .bool false ∧ OwnB wx w.heap.size (.slice (some ⟨g, 0, none⟩) n c) n m ∧ Below w.heap.size w wx)
    case first =>
      by_cases hck : c = k
      · subst hck
        have hoA : OwnB wc.drew w.heap.size (.slice (some ⟨g, 0, none⟩) n c) n m := OwnB.below ho3 (below_drewN _ 1)
        have hb0A : Below w.heap.size w wc.drew := hb03.drew
        clear ho3 hb03
        refine Mix.start (by kernel_rfl) ?_
        obtain ⟨wA, hwA⟩ : ∃ wA, wA = wc.drew := ⟨_, rfl⟩
        rw [← hwA] at hoA hb0A ⊢
        clear hwA
        refine Mix.take [true, true, true, true, true, true, false, false, true] 27 (by kernel_rfl) (by kernel_rfl) (by decide) (by kernel_rfl) (fun K hK => ?_)
        simp only [Mix.pick]
        repeat (go_big_quiet_step (fail))
        refine wpQuiet_nil (hK _ ?_)
        clear hK K
        refine Mix.one [false, false, false, false, false, false, true] 26 6 _ rfl rfl (by kernel_rfl) (by kernel_rfl) (fun K hK => ?_)
        simp only [Mix.pick]
        go_wp2
        refine ⟨rfl, hK _ _ ?_⟩
        clear hK K
        refine Mix.one [false, false, false, false, false, false, false, true] 25 7 _ rfl rfl (by kernel_rfl) (by kernel_rfl) (fun K hK => ?_)
        simp only [Mix.pick]
        go_wp2_with fail
        refine (sum_two _ _ (some ⟨g, 0, none⟩) (some ⟨g, 0, none⟩) c 0 c 0 (m.take c) (m.drop c) f rfl HL1.out (by rw [HL2.out]; omega) (head_ok hoA hm256 hk2) (tail_ok0' rfl hk2 hoA) (by omega) (cut_sum m c f HF.out)).mono ?_
        rintro e wB ⟨rfl, hbB⟩
        have hoB := OwnB.below hoA hbB
        have hb0B := hb0A.trans (hbB.mono hb0A.size)
        clear hoA hbB hb0A
        go_wp2
        refine ⟨rfl, hK _ _ ?_⟩
        clear hK K
        refine Mix.take [false, false, false, false, false, false, false, false, false, true, true, true, true, true, true, true, true, false, false, true] 16 (by kernel_rfl) (by kernel_rfl) (by decide) (by kernel_rfl) (fun K hK => ?_)
        simp only [Mix.pick]
        repeat (go_big_quiet_step (fail))
        refine wpQuiet_nil (hK _ ?_)
        clear hK K
        refine Mix.one [false, false, false, false, false, false, false, false, false, false, false, false, false, false, false, false, false, true] 15 17 _ rfl rfl (by kernel_rfl) (by kernel_rfl) (fun K hK => ?_)
        simp only [Mix.pick]
        go_wp2
        refine ⟨rfl, hK _ _ ?_⟩
        clear hK K
        refine Mix.one [false, false, false, false, false, false, false, false, false, false, false, false, false, false, false, false, false, false, true] 14 18 _ rfl rfl (by kernel_rfl) (by kernel_rfl) (fun K hK => ?_)
        simp only [Mix.pick]
        go_wp2_with fail
        refine (sum_four _ _ (some ⟨g, 0, none⟩) (some ⟨g, 0, none⟩) c 0 c 0 (m.take c) (m.drop c) f rfl HL1.out (by rw [HL2.out]; omega) (head_ok hoB hm256 hk2) (tail_ok0' rfl hk2 hoB) (by omega) (cut_sum m c f HF.out)).mono ?_
        rintro e wD ⟨rfl, hbD⟩
        have hoD := OwnB.below hoB hbD
        have hb0D := hb0B.trans (hbD.mono hb0B.size)
        clear hoB hbD hb0B
        go_wp2
        refine ⟨rfl, hK _ _ ?_⟩
        clear hK K
        refine Mix.take [false, false, false, false, false, false, false, false, false, false, false, false, false, false, false, false, false, false, false, false, true, true, true, true, true, true, true, true, true, false, false, true] 4 (by kernel_rfl) (by kernel_rfl) (by decide) (by kernel_rfl) (fun K hK => ?_)
        simp only [Mix.pick]
        repeat (go_big_quiet_step (fail))
        refine wpQuiet_nil (hK _ ?_)
        clear hK K
        refine Mix.one [false, false, false, false, false, false, false, false, false, false, false, false, false, false, false, false, false, false, false, false, false, false, false, false, false, false, false, false, false, true] 3 29 _ rfl rfl (by kernel_rfl) (by kernel_rfl) (fun K hK => ?_)
        simp only [Mix.pick]
        go_wp2
        refine ⟨rfl, hK _ _ ?_⟩
        clear hK K
        refine Mix.one [false, false, false, false, false, false, false, false, false, false, false, false, false, false, false, false, false, false, false, false, false, false, false, false, false, false, false, false, false, false, true] 2 30 _ rfl rfl (by kernel_rfl) (by kernel_rfl) (fun K hK => ?_)
        simp only [Mix.pick]
        go_wp2_with fail
        refine (sum_two _ _ (some ⟨g, i, none⟩) (some ⟨g, 0, none⟩) (n - i) i (c - i) c (m.drop i) (m.take i) f rfl HI2.out HI1.out (tail_ok hoD hm256 (by omega)) (head_ok hoD hm256 (by omega)) (by omega) (turn_sum m i f HI.out (by rw [HL.out]; omega) (by rw [HL.out]; exact HN.out) HF.out)).mono ?_
        rintro e wE ⟨rfl, hbE⟩
        have hoE := OwnB.below hoD hbE
        have hb0E := hb0D.trans (hbE.mono hb0D.size)
        clear hoD hbE hb0D
        go_wp2
        refine ⟨rfl, hK _ _ ?_⟩
        clear hK K
        refine Mix.take [false, false, false, false, false, false, false, false, false, false, false, false, false, false, false, false, false, false, false, false, false, false, false, false, false, false, false, false, false, false, false, false, true, true] 0 (by kernel_rfl) (by kernel_rfl) (by decide) (by kernel_rfl) (fun K hK => ?_)
        simp only [Mix.pick]
        repeat (go_big_quiet_step (fail))
        refine wpQuiet_nil (hK _ ?_)
        clear hK K
        refine Mix.done (by kernel_rfl) ?_
        go_wp2
        go_meet
        exact ⟨rfl, hoE, hb0E⟩
      · have hoA : OwnB wc.drew w.heap.size (.slice (some ⟨g, 0, none⟩) n c) n m := OwnB.below ho3 (below_drewN _ 1)
        have hb0A : Below w.heap.size w wc.drew := hb03.drew
        clear ho3 hb03
        refine Mix.start (by kernel_rfl) ?_
        obtain ⟨wA, hwA⟩ : ∃ wA, wA = wc.drew := ⟨_, rfl⟩
        rw [← hwA] at hoA hb0A ⊢
        clear hwA
        refine Mix.take [true, true, true, true, true, true, false, false, true] 27 (by kernel_rfl) (by kernel_rfl) (by decide) (by kernel_rfl) (fun K hK => ?_)
        simp only [Mix.pick]
        repeat (go_big_quiet_step (fail))
        refine wpQuiet_nil (hK _ ?_)
        clear hK K
        refine Mix.one [false, false, false, false, false, false, true] 26 6 _ rfl rfl (by kernel_rfl) (by kernel_rfl) (fun K hK => ?_)
        simp only [Mix.pick]
        go_wp2
        refine ⟨rfl, hK _ _ ?_⟩
        clear hK K
        refine Mix.one [false, false, false, false, false, false, false, true] 25 7 _ rfl rfl (by kernel_rfl) (by kernel_rfl) (fun K hK => ?_)
        simp only [Mix.pick]
        go_wp2_with fail
        refine (sum_two _ _ (some ⟨g, 0, none⟩) (some ⟨g, k, none⟩) k (n - k) c (c - k) (m.take k) (m.drop k) f rfl HL1.out HL2.out (head_ok hoA hm256 hk2) (tail_ok' hm256 hk2 hoA) (by omega) (cut_sum m k f HF.out)).mono ?_
        rintro e wB ⟨rfl, hbB⟩
        have hoB := OwnB.below hoA hbB
        have hb0B := hb0A.trans (hbB.mono hb0A.size)
        clear hoA hbB hb0A
        go_wp2
        refine ⟨rfl, hK _ _ ?_⟩
        clear hK K
        refine Mix.take [false, false, false, false, false, false, false, false, false, true, true, true, true, true, true, true, true, false, false, true] 16 (by kernel_rfl) (by kernel_rfl) (by decide) (by kernel_rfl) (fun K hK => ?_)
        simp only [Mix.pick]
        repeat (go_big_quiet_step (fail))
        refine wpQuiet_nil (hK _ ?_)
        clear hK K
        refine Mix.one [false, false, false, false, false, false, false, false, false, false, false, false, false, false, false, false, false, true] 15 17 _ rfl rfl (by kernel_rfl) (by kernel_rfl) (fun K hK => ?_)
        simp only [Mix.pick]
        go_wp2
        refine ⟨rfl, hK _ _ ?_⟩
        clear hK K
        refine Mix.one [false, false, false, false, false, false, false, false, false, false, false, false, false, false, false, false, false, false, true] 14 18 _ rfl rfl (by kernel_rfl) (by kernel_rfl) (fun K hK => ?_)
        simp only [Mix.pick]
        go_wp2_with fail
        refine (sum_four _ _ (some ⟨g, 0, none⟩) (some ⟨g, k, none⟩) k (n - k) c (c - k) (m.take k) (m.drop k) f rfl HL1.out HL2.out (head_ok hoB hm256 hk2) (tail_ok' hm256 hk2 hoB) (by omega) (cut_sum m k f HF.out)).mono ?_
        rintro e wD ⟨rfl, hbD⟩
        have hoD := OwnB.below hoB hbD
        have hb0D := hb0B.trans (hbD.mono hb0B.size)
        clear hoB hbD hb0B
        go_wp2
        refine ⟨rfl, hK _ _ ?_⟩
        clear hK K
        refine Mix.take [false, false, false, false, false, false, false, false, false, false, false, false, false, false, false, false, false, false, false, false, true, true, true, true, true, true, true, true, true, false, false, true] 4 (by kernel_rfl) (by kernel_rfl) (by decide) (by kernel_rfl) (fun K hK => ?_)
        simp only [Mix.pick]
        repeat (go_big_quiet_step (fail))
        refine wpQuiet_nil (hK _ ?_)
        clear hK K
        refine Mix.one [false, false, false, false, false, false, false, false, false, false, false, false, false, false, false, false, false, false, false, false, false, false, false, false, false, false, false, false, false, true] 3 29 _ rfl rfl (by kernel_rfl) (by kernel_rfl) (fun K hK => ?_)
        simp only [Mix.pick]
        go_wp2
        refine ⟨rfl, hK _ _ ?_⟩
        clear hK K
        refine Mix.one [false, false, false, false, false, false, false, false, false, false, false, false, false, false, false, false, false, false, false, false, false, false, false, false, false, false, false, false, false, false, true] 2 30 _ rfl rfl (by kernel_rfl) (by kernel_rfl) (fun K hK => ?_)
        simp only [Mix.pick]
        go_wp2_with fail
        refine (sum_two _ _ (some ⟨g, i, none⟩) (some ⟨g, 0, none⟩) (n - i) i (c - i) c (m.drop i) (m.take i) f rfl HI2.out HI1.out (tail_ok hoD hm256 (by omega)) (head_ok hoD hm256 (by omega)) (by omega) (turn_sum m i f HI.out (by rw [HL.out]; omega) (by rw [HL.out]; exact HN.out) HF.out)).mono ?_
        rintro e wE ⟨rfl, hbE⟩
        have hoE := OwnB.below hoD hbE
        have hb0E := hb0D.trans (hbE.mono hb0D.size)
        clear hoD hbE hb0D
        go_wp2
        refine ⟨rfl, hK _ _ ?_⟩
        clear hK K
        refine Mix.take [false, false, false, false, false, false, false, false, false, false, false, false, false, false, false, false, false, false, false, false, false, false, false, false, false, false, false, false, false, false, false, false, true, true] 0 (by kernel_rfl) (by kernel_rfl) (by decide) (by kernel_rfl) (fun K hK => ?_)
        simp only [Mix.pick]
        repeat (go_big_quiet_step (fail))
        refine wpQuiet_nil (hK _ ?_)
        clear hK K
        refine Mix.done (by kernel_rfl) ?_
        go_wp2
        go_meet
        exact ⟨rfl, hoE, hb0E⟩
    case rest =>
    obtain ⟨rfl, ho4, hb4⟩ := hcut
    clear ho3 hb03
    go_wp2
    go_loopw [10] (fun ix wr => ∃ j : Nat, j ≤ n ∧ Hid (j % 2 = 0) ∧ ix = .int .i64 j ∧ OwnB wr w.heap.size (.slice (some ⟨g, 0, none⟩) n c) n (half m j) ∧ Below w.heap.size w wr) (fun ix _ => n - (intOf ix).toNat)
    case atStart => exact ⟨0, by omega, rfl, rfl, by simpa [half, swp] using ho4, hb4⟩
    case round =>
      obtain ⟨j, hj, HJ, rfl, ho5, hb5⟩ := hrel
      clear ho4 hb4
      by_cases hlt : j < n
      · have hj1 : j + 1 < n := by have := HJ.out; have := HN.out; omega
        have hl := ho5.len
        have g0 : (half m j).getD j 0 = m.getD j 0 := half_at m j 0 (by rw [HL.out]; omega)
        have g1 : (half m j).getD (j + 1) 0 = m.getD (j + 1) 0 := half_at m j 1 (by rw [HL.out]; omega)
        have c0 : wr.cell? ⟨g, j, none⟩ = some (.int .u8 ((m.getD j 0 : Nat) : Int)) := by
          rw [ho5.cellAt j (by omega), ← g0]; simp [toI, List.getD, show j < (half m j).length by omega]
        have c1 : wr.cell? ⟨g, j + 1, none⟩ = some (.int .u8 ((m.getD (j + 1) 0 : Nat) : Int)) := by
          rw [ho5.cellAt (j + 1) (by omega), ← g1]; simp [toI, List.getD, show j + 1 < (half m j).length by omega]
        have hs1 := ho5.stored j (.int .u8 ((m.getD (j + 1) 0 : Nat) : Int))
        have hs2 := hs1.1.stored (j + 1) (.int .u8 ((m.getD j 0 : Nat) : Int))
        rw [toI_set, toI_set, half_step m j HJ.out (by rw [HL.out]; exact hj1)] at hs2
        have f0 := ho5.frozenAt j
        have f1 := hs1.1.frozenAt (j + 1)
        have c2 : (wr.setCell ⟨g, j, none⟩ (.int .u8 ((m.getD (j + 1) 0 : Nat) : Int))).cell? ⟨g, j + 1, none⟩ = some (.int .u8 ((m.getD (j + 1) 0 : Nat) : Int)) := by
          rw [World.cell?_setCell_other _ _ _ _ (by simp)]; exact c1
        have HS : Hid (_ ∧ _) := hs2
        have HG : Hid (wr.grownBy _ _) := hs1.2
        obtain ⟨x, hx⟩ : ∃ x, x = m.getD j 0 := ⟨_, rfl⟩
        obtain ⟨y, hy⟩ : ∃ y, y = m.getD (j + 1) 0 := ⟨_, rfl⟩
        rw [← hx] at c0 HS
        rw [← hy] at c1 c2 f1 HS HG
        clear hs1 hs2 hx hy hl ho5 g0 g1
        go_wp2
        go_roundw
        case rel => exact ⟨j + 2, by omega, by have := HJ.out; show _ = _; omega, by go_num, HS.out.1, hb5.grown (grown_trans HG.out HS.out.2) hb5.size (by intro j hj; simp at hj; omega)⟩
        case measure => simp [intOf]; omega
      · obtain rfl : j = n := by omega
        have he : half m j = swp m := by unfold half; rw [List.take_of_length_le (by rw [HL.out]; omega), List.drop_of_length_le (by rw [HL.out]; omega), List.append_nil]
        rw [he] at ho5
        have hsum := swp_sum m f (by rw [HL.out]; exact HN.out) HF.out
        have HSUM : Hid (S.fold (S.wv false (swp m)) = S.xch f) := hsum
        have hxo := xch_or f hfl
        have hxa := i64_and255 f
        obtain ⟨r, hr⟩ : ∃ r, r = f % 256 := ⟨_, rfl⟩
        rw [← hr] at hxo hxa
        have hr2 : r < 256 := by omega
        have hlt5 := swp_lt m hm256
        obtain ⟨X, hX⟩ : ∃ X, X = S.xch f := ⟨_, rfl⟩
        rw [← hX] at hxo HSUM
        clear he hsum hX hr
        go_wp2_with fail
        refine (sum_one _ _ (some ⟨g, 0, none⟩) j c (swp m) rfl ho5.len (ho5.part hlt5) (by omega)).mono ?_
        rintro e w6 ⟨rfl, hb6⟩
        rw [HSUM.out]
        have hXX : ((X : Int) == (X : Int)) = true := by simp
        go_wp2
        go_ret
        exact ⟨rfl, hb5.trans (hb6.mono hb5.size)⟩
end Go.Proofs.Ytfnmidaiabjpbaa.sumParts
