/-
  Bytes of the call's own; the statements' same, copied, laid; Group; Pad.
-/
import Derived.Test.YtdglaigelpghdaaPSplit
import Derived.Deep.DeepCutAuto
namespace Go.Proofs.Ytdglaigelpghdaa
open Go.RowKit

theorem seg_at {k : IntKind} {w : World} {a : Option Addr} {l : List Nat} (h : Seg k w a (toI l)) (i : Nat) (hi : i < l.length) : ∃ b off, a = some ⟨b, off, none⟩ ∧ ∀ j, j < l.length → w.cell? ⟨b, off + j, none⟩ = some (.int k ((l.getD j 0 : Nat) : Int)) := by
  rcases h with hnil | ⟨b, off, rfl, hc⟩
  · have := congrArg List.length hnil; rw [toI_len] at this; simp at this; subst this; simp at hi
  · refine ⟨b, off, rfl, fun j hj => ?_⟩
    have := hc j (by rw [toI_len]; exact hj)
    rwa [toI_getD] at this
theorem owns_seg_at {w : World} {base : Nat} {e : TypeId} {g : Option Addr} {n c : Nat} {k : IntKind} {zs : List Int} (h : w.ownsRow base e 1 (.slice g n c) n (zs.map (Value.int k))) : Seg k w g zs ∧ n ≤ c ∧ c ≤ 9223372036854775807 := by
  obtain ⟨a, c', e1, hs, _, h1, h2⟩ := owns_seg h
  simp only [Value.slice.injEq, true_and] at e1
  rw [e1.1, e1.2]
  exact ⟨hs, h1, by unfold maxLen at h2; exact h2⟩
/-- bytes of the call's own -/
abbrev OwnB (w : World) (B : Nat) (v : Value) (n : Nat) (l : List Nat) : Prop := w.ownsRow B 5 1 v n ((toI l).map (Value.int .u8))
theorem OwnB.len {w : World} {B : Nat} {v : Value} {n : Nat} {l : List Nat} (h : OwnB w B v n l) : l.length = n := by have := h.1; simpa [toI] using this
theorem below_grown {A B : World} (h : Below A.heap.size A B) (r : Option Nat) : A.grownBy B r := ⟨h.os, h.tape, h.output, h.size, fun k hk _ => h.block k hk⟩
theorem OwnB.below {A C : World} {B : Nat} {v : Value} {n : Nat} {l : List Nat} (h : OwnB A B v n l) (hB : Below A.heap.size A C) : OwnB C B v n l :=
  h.kept (below_grown hB none) (by cases hv : v.ownBlock <;> simp)
theorem own_form {w : World} {B : Nat} {v : Value} {n : Nat} {l : List Nat} (h : OwnB w B v n l) (hn : 0 < n) : ∃ g c, v = .slice (some ⟨g, 0, none⟩) n c ∧ B ≤ g ∧ g < w.heap.size := by
  rcases h.2 with ⟨_, h0⟩ | ⟨g, cap, cur, rfl, hg, hh, r⟩
  · omega
  · exact ⟨g, cap, rfl, hg, by rcases Nat.lt_or_ge g w.heap.size with h | h; exact h; rw [Array.getElem?_eq_none h] at hh; cases hh⟩
theorem form0 {w : World} {g B n : Nat} {xs : List Value} (h : w.ownsRow B 5 1 (.slice (some ⟨g, 0, none⟩) n n) n xs) : w.heap[g]? = some (.cells xs.toArray 5 (0, 0)) ∧ B ≤ g ∧ n ≤ maxLen := by
  rcases h.2 with ⟨h1, _⟩ | ⟨g', cap, cur, h1, hb, hh, hn, hc, hs, ht⟩
  · simp at h1
  · simp only [Value.slice.injEq, Option.some.injEq, Addr.mk.injEq, and_true, true_and] at h1
    obtain ⟨rfl, rfl⟩ := h1
    rw [List.take_of_length_le (by simp; omega)] at ht
    exact ⟨by rw [hh, ← ht], hb, hc⟩
theorem to_own {w : World} {g B n : Nat} {xs : List Value} (h : w.heap[g]? = some (.cells xs.toArray 5 (0, 0))) (hb : B ≤ g) (hn : xs.length = n) (hm : n ≤ maxLen) : w.ownsRow B 5 1 (.slice (some ⟨g, 0, none⟩) n n) n xs :=
  ⟨by simpa using hn, .inr ⟨g, n, xs.toArray, rfl, hb, h, Nat.le_refl _, hm, by simpa using hn, by simp; rw [← hn]; simp⟩⟩
theorem Try.sizeByte : (Try.prog.info? 5).map (·.size) = some 1 := by kernel_rfl
theorem news_at (w : World) (t : TypeId) (xs : List Value) : ∀ j u, xs[j]? = some u → (w.alloc (.cells xs.toArray t)).cell? ((⟨w.heap.size, 0, none⟩ : Addr).add j) = some u := by
  intro j u hu
  rw [Addr.add_lit, Nat.zero_add, World.cell?_alloc_at _ _ _ _ rfl]
  simpa using hu
theorem take_same (l m : List Nat) (k : Nat) (h1 : k < l.length) (h2 : k < m.length) (he : l.take k = m.take k) (hk : l.getD k 0 = m.getD k 0) : Hid (l.take (k + 1) = m.take (k + 1)) := by
  show _ = _
  rw [List.take_succ_eq_append_getElem h1, List.take_succ_eq_append_getElem h2, he]
  simp [List.getD, h1, h2] at hk
  rw [hk]

set_option maxHeartbeats 400000 in
theorem same_any (a b : Option Addr) (n1 n2 ca cb : Nat) (l m : List Nat) (w : World) (hn1 : l.length = n1) (hn2 : m.length = n2) (hl : Seg .u8 w a (toI l)) (hm : Seg .u8 w b (toI m)) (hl2 : n1 ≤ 9223372036854775807) :
    Calls Try.prog 10 #[.slice a n1 ca, .slice b n2 cb] w fun e w' => e = .returned (.bool (decide (l = m))) ∧ Below w.heap.size w w' := by
  subst hn1 hn2
  by_cases hlen : l.length = m.length
  · have h1 : ((l.length : Int) != (m.length : Int)) = false := by simp; omega
    have HLEN : Hid (l.length = m.length) := hlen
    obtain ⟨n, hn⟩ : ∃ n, n = l.length := ⟨_, rfl⟩
    have HN : Hid (l.length = n ∧ m.length = n) := ⟨hn.symm, by omega⟩
    have e2 : m.length = n := by omega
    rw [e2, ← hn]
    rw [← hn] at hl2
    clear h1 hlen hn e2
    have h1 : ((n : Int) != (n : Int)) = false := by simp
    go_enter Try.func10, Try.ntmps10
    go_wp2
    go_loopw [5] (fun ix wr => ∃ k : Nat, k ≤ n ∧ ix = .int .i64 k ∧ Hid (l.take k = m.take k) ∧ Below w.heap.size w wr) (fun ix _ => n - (intOf ix).toNat)
    case atStart => exact ⟨0, Nat.zero_le _, rfl, by show _ = _; simp, Below.refl _ _⟩
    case round =>
      obtain ⟨k, hk, rfl, HE, hbel⟩ := hrel
      by_cases hlt : k < n
      · obtain ⟨lb, loff, rfl, hlc⟩ := seg_at (hl.old hbel) k (by rw [HN.out.1]; exact hlt)
        obtain ⟨mb, moff, rfl, hmc⟩ := seg_at (hm.old hbel) k (by rw [HN.out.2]; exact hlt)
        have c1 := hlc k (by rw [HN.out.1]; exact hlt)
        have c2 := hmc k (by rw [HN.out.2]; exact hlt)
        obtain ⟨x, hx⟩ : ∃ x, x = l.getD k 0 := ⟨_, rfl⟩
        obtain ⟨y, hy⟩ : ∃ y, y = m.getD k 0 := ⟨_, rfl⟩
        rw [← hx] at c1
        rw [← hy] at c2
        have HX : Hid (x = l.getD k 0) := hx
        have HY : Hid (y = m.getD k 0) := hy
        clear hlc hmc hx hy
        by_cases hxy : x = y
        · subst hxy
          have hq : ((x : Int) != (x : Int)) = false := by simp
          go_wp2
          go_region
          go_wp2
          go_roundw
          case rel => exact ⟨k + 1, by omega, by go_num, take_same l m k (by rw [HN.out.1]; exact hlt) (by rw [HN.out.2]; exact hlt) HE.out (by rw [← HX.out, ← HY.out]), hbel.drew⟩
          case measure => simp [intOf]; omega
        · have hq : ((x : Int) != (y : Int)) = true := by simp; omega
          go_wp2
          go_region
          go_wp2
          go_ret
          have : l ≠ m := fun e => hxy (by rw [HX.out, HY.out, e])
          exact ⟨by simp [this], hbel.drew⟩
      · obtain rfl : k = n := by omega
        have : l = m := by
          have h := HE.out
          rw [List.take_of_length_le (by rw [HN.out.1]; omega), List.take_of_length_le (by rw [HN.out.2]; omega)] at h
          exact h
        have HLM : Hid (l = m) := this
        clear this
        go_wp2
        go_ret
        exact ⟨by simp [HLM.out], hbel⟩
  · have h1 : ((l.length : Int) != (m.length : Int)) = true := by rw [bne_iff_ne]; omega
    have hne : Hid (l ≠ m) := fun e => hlen (by rw [e])
    go_enter Try.func10, Try.ntmps10
    go_wp2
    go_ret
    exact ⟨by simp [hne.out], Below.refl _ _⟩


set_option maxHeartbeats 800000 in
set_option maxRecDepth 100000 in
theorem laid_short (a : Option Addr) (n c : Nat) (l : List Nat) (w : World) (hl : l.length = n) (hs : Seg .u8 w a (toI l)) (hm : n ≤ 70000) :
    Calls Try.prog 7 #[.slice a n c] w fun e w' => ∃ g cp, e = .returned (.tuple #[.slice (some ⟨g, 0, none⟩) n cp, .slice (some ⟨g, 0, none⟩) (n + 5) cp]) ∧ OwnB w' w.heap.size (.slice (some ⟨g, 0, none⟩) (n + 5) cp) (n + 5) (l.take n ++ [201, 202, 203, 204, 205]) ∧ Below w.heap.size w w' := by
  obtain ⟨i0, hi, hz0, hz1, hz2⟩ := info_parts Try.infoByte
  have HS : Hid (Seg .u8 w a (toI (l.take n))) := by
    have := hs.part0 n (by rw [toI_len, hl]; omega)
    rwa [toI_take] at this
  have HL : Hid ((toI (l.take n)).length = n) := by show _ = _; rw [toI_len, List.length_take, hl]; omega
  obtain ⟨m, hmm⟩ : ∃ m, m = l.take n := ⟨_, rfl⟩
  rw [← hmm] at HS HL ⊢
  clear hs hl hmm
  go_enter Try.func7, Try.ntmps7
  go_wp2_with (first | (at_builtin; refine append_split_seg rfl (.tmp 10) (.tmp 11) 22 rfl w.heap.size 5 i0 (.int .u8 0) 1 Try.underlying22 hi hz0 hz1 hz2 rfl (.slice none 0 0) 0 [] rfl (World.ownsRow_nil _ _ _ _) .u8 a n c (toI m) rfl HL.out HS.out (by unfold maxLen; omega) (by omega) (Nat.le_refl _) ?_))
  intro v1 w1 ho1 hq1 hg1
  have hb1 : Below w.heap.size w w1 := (Below.refl _ _).grown hg1 (Nat.le_refl _) (by intro k hk; simp [Value.ownBlock] at hk)
  try simp only [Nat.zero_add, List.nil_append] at ho1
  obtain ⟨a1, c1, rfl⟩ := owns_shape ho1
  have ho2 : (w1.alloc (.cells #[.int .u8 201, .int .u8 202, .int .u8 203, .int .u8 204, .int .u8 205] 5)).ownsRow w.heap.size 5 1 (.slice a1 n c1) n ((toI m).map (Value.int .u8)) := by
    have := ho1.alloc (.cells #[.int .u8 201, .int .u8 202, .int .u8 203, .int .u8 204, .int .u8 205] 5)
    simpa using this
  have hb2 : Below w.heap.size w (w1.alloc (.cells #[.int .u8 201, .int .u8 202, .int .u8 203, .int .u8 204, .int .u8 205] 5)) := hb1.alloc hb1.size _
  clear hq1 hg1 ho1 HS
  go_wp2_with (first | (at_builtin; refine append_split rfl (.tmp 13) (.tmp 14) 22 rfl w.heap.size 5 i0 (.int .u8 0) 1 Try.underlying22 hi hz0 hz1 hz2 rfl (.slice a1 n c1) n ((toI m).map (Value.int .u8)) rfl ho2 ⟨w1.heap.size, 0, none⟩ 5 5 [.int .u8 201, .int .u8 202, .int .u8 203, .int .u8 204, .int .u8 205] rfl rfl (news_at _ _ _) (by intro u hu; simp at hu; rcases hu with rfl | rfl | rfl | rfl | rfl <;> rfl) (by unfold maxLen; omega) (by omega) hb2.size ?_))
  intro v3 w3 ho3 hg3
  have hb3 : Below w.heap.size w w3 := by
    rcases hg3 with ⟨g1, _⟩ | ⟨g1, _, _⟩
    · exact hb2.grown g1 hb2.size (by intro k hk; cases hk)
    · exact hb2.grown g1 hb2.size (fun k hk => (ho2.lt k hk).1)
  have ho4 : OwnB w3 w.heap.size v3 (n + 5) (m ++ [201, 202, 203, 204, 205]) := by
    have e : (toI (m ++ [201, 202, 203, 204, 205])).map (Value.int .u8) = (toI m).map (Value.int .u8) ++ [.int .u8 201, .int .u8 202, .int .u8 203, .int .u8 204, .int .u8 205] := by simp [toI]
    rw [OwnB, e]; exact ho3
  clear hg3 ho3 hb2 ho2 hb1
  obtain ⟨g, cp, rfl, _, _⟩ := own_form ho4 (by omega)
  have hcp : n + 5 ≤ cp := (owns_seg_at ho4).2.1
  have hcp2 : ((n : Nat) : Int) ≤ (cp : Int) := by omega
  have hcp3 : n ≤ cp := by omega
  go_wp2
  go_ret2
  exact ⟨g, cp, rfl, ho4, hb3⟩

set_option maxHeartbeats 800000 in
set_option maxRecDepth 100000 in
theorem laid_long (a : Option Addr) (n c : Nat) (l : List Nat) (w : World) (hl : l.length = n) (hs : Seg .u8 w a (toI l)) (hnc : n ≤ c) (hc : c ≤ 9223372036854775807) (hm : 70000 < n) :
    Calls Try.prog 7 #[.slice a n c] w fun e w' => ∃ g cp, e = .returned (.tuple #[.slice (some ⟨g, 0, none⟩) 70000 cp, .slice (some ⟨g, 0, none⟩) (70000 + 5) cp]) ∧ OwnB w' w.heap.size (.slice (some ⟨g, 0, none⟩) (70000 + 5) cp) (70000 + 5) (l.take 70000 ++ [201, 202, 203, 204, 205]) ∧ Below w.heap.size w w' := by
  obtain ⟨i0, hi, hz0, hz1, hz2⟩ := info_parts Try.infoByte
  have HS : Hid (Seg .u8 w a (toI (l.take 70000))) := by
    have := hs.part0 70000 (by rw [toI_len, hl]; omega)
    rwa [toI_take] at this
  have HL : Hid ((toI (l.take 70000)).length = 70000) := by show _ = _; rw [toI_len, List.length_take, hl]; omega
  obtain ⟨m, hmm⟩ : ∃ m, m = l.take 70000 := ⟨_, rfl⟩
  rw [← hmm] at HS HL ⊢
  clear hs hl hmm
  go_enter Try.func7, Try.ntmps7
  go_wp2_with (first | (at_builtin; refine append_split_seg rfl (.tmp 10) (.tmp 11) 22 rfl w.heap.size 5 i0 (.int .u8 0) 1 Try.underlying22 hi hz0 hz1 hz2 rfl (.slice none 0 0) 0 [] rfl (World.ownsRow_nil _ _ _ _) .u8 a 70000 c (toI m) rfl HL.out HS.out (by unfold maxLen; omega) (by omega) (Nat.le_refl _) ?_))
  intro v1 w1 ho1 hq1 hg1
  have hb1 : Below w.heap.size w w1 := (Below.refl _ _).grown hg1 (Nat.le_refl _) (by intro k hk; simp [Value.ownBlock] at hk)
  try simp only [Nat.zero_add, List.nil_append] at ho1
  obtain ⟨a1, c1, rfl⟩ := owns_shape ho1
  have ho2 : (w1.alloc (.cells #[.int .u8 201, .int .u8 202, .int .u8 203, .int .u8 204, .int .u8 205] 5)).ownsRow w.heap.size 5 1 (.slice a1 70000 c1) 70000 ((toI m).map (Value.int .u8)) := by
    have := ho1.alloc (.cells #[.int .u8 201, .int .u8 202, .int .u8 203, .int .u8 204, .int .u8 205] 5)
    simpa using this
  have hb2 : Below w.heap.size w (w1.alloc (.cells #[.int .u8 201, .int .u8 202, .int .u8 203, .int .u8 204, .int .u8 205] 5)) := hb1.alloc hb1.size _
  clear hq1 hg1 ho1 HS
  go_wp2_with (first | (at_builtin; refine append_split rfl (.tmp 13) (.tmp 14) 22 rfl w.heap.size 5 i0 (.int .u8 0) 1 Try.underlying22 hi hz0 hz1 hz2 rfl (.slice a1 70000 c1) 70000 ((toI m).map (Value.int .u8)) rfl ho2 ⟨w1.heap.size, 0, none⟩ 5 5 [.int .u8 201, .int .u8 202, .int .u8 203, .int .u8 204, .int .u8 205] rfl rfl (news_at _ _ _) (by intro u hu; simp at hu; rcases hu with rfl | rfl | rfl | rfl | rfl <;> rfl) (by unfold maxLen; omega) (by omega) hb2.size ?_))
  intro v3 w3 ho3 hg3
  have hb3 : Below w.heap.size w w3 := by
    rcases hg3 with ⟨g1, _⟩ | ⟨g1, _, _⟩
    · exact hb2.grown g1 hb2.size (by intro k hk; cases hk)
    · exact hb2.grown g1 hb2.size (fun k hk => (ho2.lt k hk).1)
  have ho4 : OwnB w3 w.heap.size v3 (70000 + 5) (m ++ [201, 202, 203, 204, 205]) := by
    have e : (toI (m ++ [201, 202, 203, 204, 205])).map (Value.int .u8) = (toI m).map (Value.int .u8) ++ [.int .u8 201, .int .u8 202, .int .u8 203, .int .u8 204, .int .u8 205] := by simp [toI]
    rw [OwnB, e]; exact ho3
  clear hg3 ho3 hb2 ho2 hb1
  obtain ⟨g, cp, rfl, _, _⟩ := own_form ho4 (by omega)
  have hcp : 70000 + 5 ≤ cp := (owns_seg_at ho4).2.1
  have hcp2 : ((70000 : Nat) : Int) ≤ (cp : Int) := by omega
  have hcp3 : 70000 ≤ cp := by omega
  go_wp2
  go_ret2
  exact ⟨g, cp, rfl, ho4, hb3⟩

theorem copied_any (a : Option Addr) (n c : Nat) (l : List Nat) (w : World) (hl : l.length = n) (hs : Seg .u8 w a (toI l)) (hn : n ≤ 140737488355328) :
    Calls Try.prog 8 #[.slice a n c] w fun e w' => ∃ v, e = .returned v ∧ OwnB w' w.heap.size v n l ∧ Below w.heap.size w w' := by
  obtain ⟨i0, hi, hz0, hz1, hz2⟩ := info_parts Try.infoByte
  have HL : Hid ((toI l).length = n) := by show _ = _; rw [toI_len]; exact hl
  clear hl
  go_enter Try.func8, Try.ntmps8
  go_wp2_with (first | (at_builtin; refine append_split_seg rfl (.tmp 4) (.tmp 5) 22 rfl w.heap.size 5 i0 (.int .u8 0) 1 Try.underlying22 hi hz0 hz1 hz2 rfl (.slice none 0 0) 0 [] rfl (World.ownsRow_nil _ _ _ _) .u8 a n c (toI l) rfl HL.out hs (by unfold maxLen; omega) (by omega) (Nat.le_refl _) ?_))
  intro v1 w1 ho1 hq1 hg1
  have hb1 : Below w.heap.size w w1 := (Below.refl _ _).grown hg1 (Nat.le_refl _) (by intro k hk; simp [Value.ownBlock] at hk)
  try simp only [Nat.zero_add, List.nil_append] at ho1
  clear hq1 hg1 hs
  go_wp2
  go_ret
  exact ⟨_, rfl, ho1, hb1⟩
set_option maxRecDepth 100000 in
theorem and_one (x : Nat) (h : x < 256) : bits .and .u8 (x : Int) 1 = ((x % 2 : Nat) : Int) := by
  have : ∀ y : Fin 256, bits .and .u8 ((y.val : Nat) : Int) 1 = ((y.val % 2 : Nat) : Int) := by decide
  exact this ⟨x, h⟩
theorem group_any (x0 x1 x2 x3 x4 x5 : Nat) (h : x0 < 256) (w : World) :
    Calls Try.prog 5 #[.agg #[.int .u8 x0, .int .u8 x1, .int .u8 x2, .int .u8 x3, .int .u8 x4, .int .u8 x5]] w fun e w' => e = .returned (.bool (decide (x0 % 2 = 1))) ∧ Below w.heap.size w w' := by
  have h1 := and_one x0 h
  obtain ⟨y, hy⟩ : ∃ y, y = x0 % 2 := ⟨_, rfl⟩
  rw [← hy] at h1 ⊢
  have hy2 : y < 2 := by omega
  have h2 : ((y : Int) != 0) = decide (y = 1) := by
    rcases (show y = 0 ∨ y = 1 by omega) with rfl | rfl <;> decide
  clear hy
  obtain ⟨d, hd⟩ : ∃ d, d = decide (y = 1) := ⟨_, rfl⟩
  rw [← hd] at h2 ⊢
  clear hd
  go_enter Try.func5, Try.ntmps5
  go_wp2
  go_ret
  exact ⟨rfl, (Below.refl _ _).alloc (Nat.le_refl _) _⟩
theorem groupR_any (x0 x1 x2 x3 x4 x5 : Nat) (h : x0 < 256) (w : World) :
    Calls Try.prog 6 #[.agg #[.int .u8 x0, .int .u8 x1, .int .u8 x2, .int .u8 x3, .int .u8 x4, .int .u8 x5]] w fun e w' => e = .returned (.bool (decide (x0 % 2 = 1))) ∧ Below w.heap.size w w' := by
  have h2 : ((x0 : Int) % 2 == 1) = decide (x0 % 2 = 1) := by
    rcases (show x0 % 2 = 0 ∨ x0 % 2 = 1 by omega) with h | h
    · rw [h, show (x0 : Int) % 2 = 0 by omega]; decide
    · rw [h, show (x0 : Int) % 2 = 1 by omega]; decide
  have h3 : (Int.tmod (x0 : Int) 2 == 1) = decide (x0 % 2 = 1) := by rw [Int.tmod_eq_emod_of_nonneg (by omega)]; exact h2
  obtain ⟨d, hd⟩ : ∃ d, d = decide (x0 % 2 = 1) := ⟨_, rfl⟩
  rw [← hd] at h2 h3 ⊢
  clear hd
  go_enter Try.func6, Try.ntmps6
  go_wp2
  go_ret
  exact ⟨rfl, (Below.refl _ _).alloc (Nat.le_refl _) _⟩
end Go.Proofs.Ytdglaigelpghdaa
