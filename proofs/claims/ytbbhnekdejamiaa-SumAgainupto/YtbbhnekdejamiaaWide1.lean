/-
  Wide: the bytes in new memory, marks behind them.
-/
import Derived.Test.YtbbhnekdejamiaaApart1
import Derived.Laws.CopyOwn
namespace Go.Proofs.Ytbbhnekdejamiaa.Wd
open Go.RowKit

def bh (i : Nat) : Nat := ((203 - 5 * (i : Int)) % 256).toNat
theorem bh_lt (i : Nat) : bh i < 256 := by unfold bh; omega
theorem bh_wrap (i : Nat) : IntKind.u8.wrap (203 - 5 * (i : Int)) = ((bh i : Nat) : Int) := by
  simp [bh, IntKind.wrap, IntKind.bits, IntKind.signed]; omega
theorem behind_any (i : Nat) (w : World) (h : i ≤ 4398046511104) : Calls Try.prog 28 #[.int .i64 (i : Int)] w fun e w' => e = .returned (.int .u8 ((bh i : Nat) : Int)) ∧ w = w' := by
  have h2 := bh_wrap i
  go_enter Try.func28, Try.ntmps28
  go_wp2
  go_ret
  exact ⟨rfl, rfl⟩
/-- k marks, zeros behind them -/
def wideL (l : List Nat) (m k : Nat) : List Nat := l ++ (List.range k).map bh ++ List.replicate (m - k) 0
theorem wide_len (l : List Nat) (m k : Nat) (h : k ≤ m) : (wideL l m k).length = l.length + m := by simp [wideL]; omega
theorem wide_set (l : List Nat) (m k : Nat) (h : k < m) : (wideL l m k).set (l.length + k) (bh k) = wideL l m (k + 1) := by
  unfold wideL
  rw [show m - k = (m - (k + 1)) + 1 by omega, List.replicate_succ, List.set_append_right _ _ (by simp)]
  simp [List.range_succ]
def wide (l : List Nat) : List Nat := l ++ (List.range (l.length + 70)).map bh
theorem wide_all (l : List Nat) : wideL l (l.length + 70) (l.length + 70) = wide l := by simp [wideL, wide]
theorem toI_set2 (l : List Nat) (i x : Nat) : ((toI l).map (Value.int .u8)).set i (.int .u8 (x : Int)) = (toI (l.set i x)).map (Value.int .u8) := by
  simp [toI, List.map_set]
theorem form0 {w : World} {g B n : Nat} {xs : List Value} (h : w.ownsRow B 5 1 (.slice (some ⟨g, 0, none⟩) n n) n xs) : w.heap[g]? = some (.cells xs.toArray 5 (0, 0)) ∧ B ≤ g ∧ n ≤ maxLen := by
  rcases h.2 with ⟨h1, _⟩ | ⟨g', cap, cur, h1, hb, hh, hn, hc, hs, ht⟩
  · simp at h1
  · simp only [Value.slice.injEq, Option.some.injEq, Addr.mk.injEq, and_true, true_and] at h1
    obtain ⟨rfl, rfl⟩ := h1
    rw [List.take_of_length_le (by simp; omega)] at ht
    exact ⟨by rw [hh, ← ht], hb, hc⟩
theorem to_own {w : World} {g B n : Nat} {xs : List Value} (h : w.heap[g]? = some (.cells xs.toArray 5 (0, 0))) (hb : B ≤ g) (hn : xs.length = n) (hm : n ≤ maxLen) : w.ownsRow B 5 1 (.slice (some ⟨g, 0, none⟩) n n) n xs :=
  ⟨by simpa using hn, .inr ⟨g, n, xs.toArray, rfl, hb, h, Nat.le_refl _, hm, by simpa using hn, by simp; rw [← hn]; simp⟩⟩
theorem Try.sizeByte : (Try.prog.info? 5).map (·.size) = some 1 := by kernel_rfl

set_option maxHeartbeats 1600000 in
set_option maxRecDepth 100000 in
theorem wide_any (a : Option Addr) (n c : Nat) (l : List Nat) (w : World) (hn : l.length = n) (hs : Seg .u8 w a (toI l)) (hm : n ≤ 1099511627776) :
    Calls Try.prog 17 #[.slice a n c] w fun e w' => ∃ g, e = .returned (.slice (some ⟨g, 0, none⟩) n (2 * n + 70)) ∧ OwnB w' w.heap.size (.slice (some ⟨g, 0, none⟩) (2 * n + 70) (2 * n + 70)) (2 * n + 70) (wide l) ∧ Below w.heap.size w w' := by
  obtain ⟨i0, hi, hz0, hz1, hz2⟩ := info_parts Try.infoByte
  obtain ⟨N, hN⟩ : ∃ N, N = 2 * n + 70 := ⟨_, rfl⟩
  have HN : Hid (N = 2 * n + 70) := hN
  have hN2 : 2 * (n : Int) + 70 = (N : Int) := by omega
  have hNn : n ≤ N := by omega
  have hNm : N ≤ 2199023255622 := by omega
  clear hN
  have HL : Hid (l.length = n) := hn
  clear hn
  obtain ⟨cs, hcs⟩ : ∃ cs, cs = (toI l).map (Value.int .u8) := ⟨_, rfl⟩
  have HCL : Hid (cs.length = n) := by show _ = _; rw [hcs]; simp [toI, HL.out]
  have HC1 : Hid (∀ v ∈ cs, v.oneCell' = true) := by
    intro v hv; rw [hcs] at hv; obtain ⟨z, _, rfl⟩ := List.mem_map.1 hv; rfl
  have HSG : Hid (∀ w', Below w.heap.size w w' → 0 < cs.length → ∃ ad, a = some ad ∧ ∀ j v, cs[j]? = some v → w'.cell? (ad.add j) = some v) := by
    intro w' hb h0
    rcases hs.old hb with hnil | ⟨b, off, rfl, hc⟩
    · rw [hcs, hnil] at h0; simp at h0
    · refine ⟨_, rfl, fun j v hj => ?_⟩
      rw [hcs] at hj
      have hj' : j < (toI l).length := by simpa using (List.getElem?_eq_some_iff.1 hj).1
      rw [Addr.add_lit, hc j hj']
      simp [List.getElem?_eq_getElem hj'] at hj
      rw [← hj]
      simp [List.getD, hj']
  have HCS : Hid (cs = (toI l).map (Value.int .u8)) := hcs
  clear hcs hs
  go_enter Try.func17, Try.ntmps17
  go_wp2_with (first | (at_make; refine wpList_make_full _ rfl _ _ 26 rfl w.heap.size 5 i0 (.int .u8 0) 1 Try.underlying26 hi hz0 hz1 .i64 .i64 _ _ N rfl rfl rfl rfl (by rw [hz2]; omega) (by unfold maxLen; omega) (Nat.le_refl _) ?_))
  intro w2 hown2 hgrow2
  have hb2 : Below w.heap.size w w2 := (Below.refl _ _).grown hgrow2 (Nat.le_refl _) (by intro k hk; cases hk)
  rw [toList_madeCells_one] at hown2
  obtain ⟨hg2, hgB, _⟩ := form0 hown2
  obtain ⟨g, hg⟩ : ∃ g, g = w.heap.size := ⟨_, rfl⟩
  rw [← hg] at hg2 ⊢
  have hgB' : w.heap.size ≤ g := by omega
  obtain ⟨zs, hzs⟩ : ∃ zs, zs = List.replicate N (Value.int IntKind.u8 0) := ⟨_, rfl⟩
  rw [← hzs] at hg2
  have HZ : Hid (zs = List.replicate N (Value.int IntKind.u8 0)) := hzs
  have HZL : Hid (zs.length = N) := by show _ = _; rw [hzs]; simp
  clear hown2 hgrow2 hgB hg hzs
  go_wp2_with (first | (refine wpList_copy_splice rfl _ _ 26 26 rfl 5 Try.underlying26 Try.sizeByte _ _ _ _ _ _ rfl rfl g 0 zs 5 hg2 cs (by rw [HCL.out]; show n = min n N; omega) (fun h0 => ⟨rfl, HSG.out _ hb2 h0⟩) (by rw [HCL.out, HZL.out]; omega) HC1.out w.heap.size w hb2 hgB' ?_))
  intro w3 HG3 hb3
  have hsp : splice zs 0 cs = (toI (wideL l (n + 70) 0)).map (Value.int .u8) := by
    rw [splice, HZ.out, HCS.out]
    simp only [List.take_zero, List.nil_append, Nat.zero_add, List.drop_replicate, List.length_map]
    rw [show (toI l).length = n by rw [toI_len]; exact HL.out, HN.out, show 2 * n + 70 - n = n + 70 by omega]
    simp [wideL, toI]
  have ho3 : OwnB w3 w.heap.size (.slice (some ⟨g, 0, none⟩) N N) N (wideL l (n + 70) 0) := by
    have h := HG3.out
    rw [hsp] at h
    exact to_own h hgB' (by simp [toI, wideL, HL.out, HN.out]; omega) (by unfold maxLen; omega)
  clear HG3 hsp hg2 HZ HZL HC1 HSG HCS HCL hb2
  go_wp2
  go_loopw [4] (fun ix wr => ∃ k : Nat, k ≤ n + 70 ∧ ix = .int .i64 ((n + k : Nat) : Int) ∧ OwnB wr w.heap.size (.slice (some ⟨g, 0, none⟩) N N) N (wideL l (n + 70) k) ∧ Below w.heap.size w wr) (fun ix _ => N - (intOf ix).toNat)
  case atStart => exact ⟨0, Nat.zero_le _, rfl, ho3, hb3⟩
  case round =>
    obtain ⟨k, hk, rfl, ho, hbq⟩ := hrel
    clear ho3 hb3
    have hNe := HN.out
    by_cases hlt : k < n + 70
    · have hl := ho.len
      obtain ⟨j, hj⟩ : ∃ j, j = n + k := ⟨_, rfl⟩
      have hjN : j < N := by omega
      have cc : wr.cell? ⟨g, j, none⟩ = some (.int .u8 (((wideL l (n + 70) k).getD j 0 : Nat) : Int)) := by
        rw [ho.cellAt j (by omega)]; simp [toI, List.getD, show j < (wideL l (n + 70) k).length by omega]
      have ff := ho.frozenAt j
      have hst := ho.stored j (.int .u8 ((bh k : Nat) : Int))
      rw [toI_set2] at hst
      have hws := wide_set l (n + 70) k hlt
      rw [HL.out, ← hj] at hws
      rw [hws] at hst
      have HST : Hid (_ ∧ _) := hst
      obtain ⟨q, hq⟩ : ∃ q, q = (wideL l (n + 70) k).getD j 0 := ⟨_, rfl⟩
      rw [← hq] at cc
      have hjk : (j : Int) - (n : Int) = (k : Int) := by omega
      have HJ : Hid (j = n + k) := hj
      have HNE : Hid (N = 2 * n + 70) := hNe
      rw [← hj]
      clear hst hq hl ho hws hj hNe
      go_wp2_with fail
      refine (behind_any k _ (by omega)).mono ?_
      rintro e w5 ⟨rfl, rfl⟩
      go_wp2
      go_roundw
      case rel => exact ⟨k + 1, by omega, by have := HJ.out; go_num, HST.out.1, hbq.grown HST.out.2 hbq.size (by intro i hi'; simp at hi'; omega)⟩
      case measure => have := HJ.out; have := HNE.out; simp [intOf]; omega
    · have hk2 : k = n + 70 := by omega
      have hjN : n + k = N := by omega
      rw [hk2, ← HL.out, wide_all] at ho
      have HR : Hid (2 * n + 70 = N) := hNe.symm
      rw [hjN]
      clear hk2 hjN hNe
      go_wp2
      go_ret
      exact ⟨g, by rw [HR.out]; rfl, by rw [HR.out]; exact ho, hbq⟩
end Go.Proofs.Ytbbhnekdejamiaa.Wd
