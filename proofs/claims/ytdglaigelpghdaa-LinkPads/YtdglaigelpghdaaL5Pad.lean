/-
  Pad, and the document's own.
-/
import Derived.Test.YtdglaigelpghdaaL5Base
import Derived.Laws.CopyOwn
namespace Go.Proofs.Ytdglaigelpghdaa
open Go.RowKit

/-- zeros behind, up to 60 -/
def padL (l : List Nat) : List Nat := l ++ List.replicate (60 - l.length) 0
theorem padL_len (l : List Nat) : (padL l).length = max l.length 60 := by simp [padL]; omega
set_option maxHeartbeats 1600000 in
set_option maxRecDepth 100000 in
theorem pad_lo (a : Option Addr) (n c : Nat) (l : List Nat) (w : World) (hn : l.length = n) (hs : Seg .u8 w a (toI l)) (hm : n ≤ 140737488355328) (hlt : n < 60) :
    Calls Try.prog 4 #[.slice a n c] w fun e w' => ∃ g, e = .returned (.slice (some ⟨g, 0, none⟩) 60 60) ∧ OwnB w' w.heap.size (.slice (some ⟨g, 0, none⟩) 60 60) 60 (padL l) ∧ Below w.heap.size w w' := by
  obtain ⟨i0, hi, hz0, hz1, hz2⟩ := info_parts Try.infoByte
  have hN2 : (n : Int) < 60 := by omega
  have HL : Hid (l.length = n) := hn
  clear hn
  obtain ⟨cs, hcs⟩ : ∃ cs, cs = (toI l).map (Value.int .u8) := ⟨_, rfl⟩
  have HCL : Hid (cs.length = n) := by show _ = _; rw [hcs]; simp [toI, HL.out]
  have HC1 : Hid (∀ v ∈ cs, v.oneCell' = true) := by
    intro v hv; rw [hcs] at hv; obtain ⟨z, _, rfl⟩ := List.mem_map.1 hv; rfl
  have HSG : Hid (∀ w', Below w.heap.size w w' → 0 < cs.length → ∃ ad, a = some ad ∧ ∀ j v, cs[j]? = some v → w'.cell? (ad.add j) = some v) := by
    intro w' hb h0
    rcases hs.old hb with hnil | ⟨b, off, rfl, hc⟩
    · rw [hcs, hnil] at h0; simp at h0
    · refine ⟨_, rfl, fun j v hj => ?_⟩
      rw [hcs] at hj
      have hj' : j < (toI l).length := by simpa using (List.getElem?_eq_some_iff.1 hj).1
      rw [Addr.add_lit, hc j hj']
      simp [List.getElem?_eq_getElem hj'] at hj
      rw [← hj]
      simp [List.getD, hj']
  have HCS : Hid (cs = (toI l).map (Value.int .u8)) := hcs
  clear hcs hs
  go_enter Try.func4, Try.ntmps4
  go_wp2_with (first | (at_make; refine wpList_make_full _ rfl _ _ 22 rfl w.heap.size 5 i0 (.int .u8 0) 1 Try.underlying22 hi hz0 hz1 .i64 .i64 _ _ 60 rfl rfl rfl rfl (by rw [hz2]; omega) (by unfold maxLen; omega) (Nat.le_refl _) ?_))
  intro w2 hown2 hgrow2
  have hb2 : Below w.heap.size w w2 := (Below.refl _ _).grown hgrow2 (Nat.le_refl _) (by intro k hk; cases hk)
  rw [toList_madeCells_one] at hown2
  obtain ⟨hg2, hgB, _⟩ := form0 hown2
  obtain ⟨g, hg⟩ : ∃ g, g = w.heap.size := ⟨_, rfl⟩
  rw [← hg] at hg2 ⊢
  have hgB' : w.heap.size ≤ g := by omega
  obtain ⟨zs, hzs⟩ : ∃ zs, zs = List.replicate 60 (Value.int IntKind.u8 0) := ⟨_, rfl⟩
  rw [← hzs] at hg2
  have HZ : Hid (zs = List.replicate 60 (Value.int IntKind.u8 0)) := hzs
  have HZL : Hid (zs.length = 60) := by show _ = _; rw [hzs]; simp
  clear hown2 hgrow2 hgB hg hzs
  go_wp2_with (first | (refine wpList_copy_splice rfl _ _ 22 22 rfl 5 Try.underlying22 Try.sizeByte _ _ _ _ _ _ rfl rfl g 0 zs 5 hg2 cs (by rw [HCL.out]; show n = min n 60; omega) (fun h0 => ⟨rfl, HSG.out _ hb2 h0⟩) (by rw [HCL.out, HZL.out]; omega) HC1.out w.heap.size w hb2 hgB' ?_))
  intro w3 HG3 hb3
  have hsp : splice zs 0 cs = (toI (padL l)).map (Value.int .u8) := by
    rw [splice, HZ.out, HCS.out]
    simp only [List.take_zero, List.nil_append, Nat.zero_add, List.drop_replicate, List.length_map]
    rw [show (toI l).length = n by rw [toI_len]; exact HL.out]
    have e : 60 - n = 60 - l.length := by have := HL.out; omega
    rw [e]
    simp [padL, toI]
  have ho3 : OwnB w3 w.heap.size (.slice (some ⟨g, 0, none⟩) 60 60) 60 (padL l) := by
    have h := HG3.out
    rw [hsp] at h
    exact to_own h hgB' (by rw [List.length_map, toI_len, padL_len, HL.out]; omega) (by unfold maxLen; omega)
  clear HG3 hsp hg2 HZ HZL HC1 HSG HCS HCL hb2
  go_wp2
  go_ret
  exact ⟨g, rfl, ho3, hb3⟩
set_option maxHeartbeats 1600000 in
set_option maxRecDepth 100000 in
theorem pad_hi (a : Option Addr) (n c : Nat) (l : List Nat) (w : World) (hn : l.length = n) (hs : Seg .u8 w a (toI l)) (hm : n ≤ 140737488355328) (hlt : ¬ n < 60) :
    Calls Try.prog 4 #[.slice a n c] w fun e w' => ∃ g, e = .returned (.slice (some ⟨g, 0, none⟩) n n) ∧ OwnB w' w.heap.size (.slice (some ⟨g, 0, none⟩) n n) n (padL l) ∧ Below w.heap.size w w' := by
  obtain ⟨i0, hi, hz0, hz1, hz2⟩ := info_parts Try.infoByte
  have hN2 : ¬ (n : Int) < 60 := by omega
  have HL : Hid (l.length = n) := hn
  clear hn
  obtain ⟨cs, hcs⟩ : ∃ cs, cs = (toI l).map (Value.int .u8) := ⟨_, rfl⟩
  have HCL : Hid (cs.length = n) := by show _ = _; rw [hcs]; simp [toI, HL.out]
  have HC1 : Hid (∀ v ∈ cs, v.oneCell' = true) := by
    intro v hv; rw [hcs] at hv; obtain ⟨z, _, rfl⟩ := List.mem_map.1 hv; rfl
  have HSG : Hid (∀ w', Below w.heap.size w w' → 0 < cs.length → ∃ ad, a = some ad ∧ ∀ j v, cs[j]? = some v → w'.cell? (ad.add j) = some v) := by
    intro w' hb h0
    rcases hs.old hb with hnil | ⟨b, off, rfl, hc⟩
    · rw [hcs, hnil] at h0; simp at h0
    · refine ⟨_, rfl, fun j v hj => ?_⟩
      rw [hcs] at hj
      have hj' : j < (toI l).length := by simpa using (List.getElem?_eq_some_iff.1 hj).1
      rw [Addr.add_lit, hc j hj']
      simp [List.getElem?_eq_getElem hj'] at hj
      rw [← hj]
      simp [List.getD, hj']
  have HCS : Hid (cs = (toI l).map (Value.int .u8)) := hcs
  clear hcs hs
  go_enter Try.func4, Try.ntmps4
  go_wp2_with (first | (at_make; refine wpList_make_full _ rfl _ _ 22 rfl w.heap.size 5 i0 (.int .u8 0) 1 Try.underlying22 hi hz0 hz1 .i64 .i64 _ _ n rfl rfl rfl rfl (by rw [hz2]; omega) (by unfold maxLen; omega) (Nat.le_refl _) ?_))
  intro w2 hown2 hgrow2
  have hb2 : Below w.heap.size w w2 := (Below.refl _ _).grown hgrow2 (Nat.le_refl _) (by intro k hk; cases hk)
  rw [toList_madeCells_one] at hown2
  obtain ⟨hg2, hgB, _⟩ := form0 hown2
  obtain ⟨g, hg⟩ : ∃ g, g = w.heap.size := ⟨_, rfl⟩
  rw [← hg] at hg2 ⊢
  have hgB' : w.heap.size ≤ g := by omega
  obtain ⟨zs, hzs⟩ : ∃ zs, zs = List.replicate n (Value.int IntKind.u8 0) := ⟨_, rfl⟩
  rw [← hzs] at hg2
  have HZ : Hid (zs = List.replicate n (Value.int IntKind.u8 0)) := hzs
  have HZL : Hid (zs.length = n) := by show _ = _; rw [hzs]; simp
  clear hown2 hgrow2 hgB hg hzs
  go_wp2_with (first | (refine wpList_copy_splice rfl _ _ 22 22 rfl 5 Try.underlying22 Try.sizeByte _ _ _ _ _ _ rfl rfl g 0 zs 5 hg2 cs (by rw [HCL.out]; show n = min n n; omega) (fun h0 => ⟨rfl, HSG.out _ hb2 h0⟩) (by rw [HCL.out, HZL.out]; omega) HC1.out w.heap.size w hb2 hgB' ?_))
  intro w3 HG3 hb3
  have hsp : splice zs 0 cs = (toI (padL l)).map (Value.int .u8) := by
    rw [splice, HZ.out, HCS.out]
    simp only [List.take_zero, List.nil_append, Nat.zero_add, List.drop_replicate, List.length_map]
    rw [show (toI l).length = n by rw [toI_len]; exact HL.out]
    have e : n - n = 60 - l.length := by have := HL.out; omega
    rw [e]
    simp [padL, toI]
  have ho3 : OwnB w3 w.heap.size (.slice (some ⟨g, 0, none⟩) n n) n (padL l) := by
    have h := HG3.out
    rw [hsp] at h
    exact to_own h hgB' (by rw [List.length_map, toI_len, padL_len, HL.out]; omega) (by unfold maxLen; omega)
  clear HG3 hsp hg2 HZ HZL HC1 HSG HCS HCL hb2
  go_wp2
  go_ret
  exact ⟨g, rfl, ho3, hb3⟩
theorem pad_any (a : Option Addr) (n c : Nat) (l : List Nat) (w : World) (hn : l.length = n) (hs : Seg .u8 w a (toI l)) (hm : n ≤ 140737488355328) :
    Calls Try.prog 4 #[.slice a n c] w fun e w' => ∃ g, e = .returned (.slice (some ⟨g, 0, none⟩) (max n 60) (max n 60)) ∧ OwnB w' w.heap.size (.slice (some ⟨g, 0, none⟩) (max n 60) (max n 60)) (max n 60) (padL l) ∧ Below w.heap.size w w' := by
  by_cases h : n < 60
  · rw [show max n 60 = 60 by omega]; exact pad_lo a n c l w hn hs hm h
  · rw [show max n 60 = n by omega]; exact pad_hi a n c l w hn hs hm h
theorem toI_ne (l : List Nat) (h : 0 < l.length) : toI l ≠ [] := by
  intro e
  have := congrArg List.length e
  rw [toI_len] at this
  simp only [List.length_nil] at this
  omega
set_option maxHeartbeats 400000 in
theorem part_any (ad : Option Addr) (len cap : Nat) (bs : List Nat) (w : World) (hl : bs.length = len) (hb : Seg .u8 w ad (toI bs)) (h3 : len ≤ 140737488355328) :
    Calls Try.prog 11 #[.slice ad len cap, .int .i64 0, .int .i64 (len : Int)] w fun e w' => ∃ v, e = .returned v ∧ OwnB w' w.heap.size v len bs ∧ Below w.heap.size w w' := by
  subst hl
  obtain ⟨i0, hi, hz0, hz1, hz2⟩ := info_parts Try.infoByte
  go_enter Try.func11, Try.ntmps11
  go_wp2
  go_loopw [7, 8] (fun l ix wr => ∃ k : Nat, k ≤ bs.length ∧ ix = .int .i64 (k : Int) ∧ OwnB wr w.heap.size l k (bs.take k) ∧ Below w.heap.size w wr) (fun _ ix _ => bs.length - (intOf ix).toNat)
  case atStart => exact ⟨0, Nat.zero_le _, by go_num, World.ownsRow_nil _ _ _ _, Below.refl _ _⟩
  case round =>
    obtain ⟨k, hk, rfl, hown, hbel⟩ := hrel
    by_cases hlt : k < bs.length
    · have hb1 := hb.old hbel
      rcases hb1 with hnil | ⟨b, off, rfl, hc⟩
      · exact absurd hnil (toI_ne bs (by omega))
      have hcell := hc k (by rw [toI_len]; omega)
      rw [toI_getD] at hcell
      obtain ⟨y, hy⟩ : ∃ y, y = bs.getD k 0 := ⟨_, rfl⟩
      rw [← hy] at hcell
      have hst : (toI (bs.take (k + 1))).map (Value.int .u8) = (toI (bs.take k)).map (Value.int .u8) ++ [.int .u8 (y : Int)] := by
        rw [List.take_succ_eq_append_getElem hlt, toI, List.map_append, List.map_append, hy]
        simp only [List.map_cons, List.map_nil]
        congr 3
        simp [List.getD, hlt]
      have HS : Hid _ := hst
      clear hc hy hst
      go_wp2_with (first | (at_builtin; refine wpList_append_own _ rfl _ _ 22 rfl w.heap.size 5 i0 (.int .u8 0) 1 1 Try.underlying22 hi hz0 hz1 hz2 rfl (by decide) _ _ _ rfl (hown.alloc _) ⟨wr.heap.size, 0, none⟩ 1 1 [.int .u8 (y : Int)] rfl rfl (news_at _ _ _) ?c2 ?c3 ?c4 ?c5 ?c6))
      case c2 => intro u hu; simp at hu; subst hu; rfl
      case c3 => unfold maxLen; omega
      case c4 => omega
      case c5 => have := hbel.size; simp; omega
      case c6 =>
      intro v' w1 hown1 hgrow1 _
      have hbel1 : Below w.heap.size w w1 := (hbel.alloc hbel.size _).grown hgrow1 (by have := hbel.size; simp; omega) (fun j hj => (hown.lt j hj).1)
      rw [← HS.out] at hown1
      clear hgrow1 hown hbel
      go_wp2
      go_roundw
      case rel => exact ⟨k + 1, by omega, by go_num, hown1, hbel1⟩
      case measure => simp [intOf]; omega
    · obtain rfl : k = bs.length := by omega
      rw [List.take_length] at hown
      go_wp2
      go_ret
      exact ⟨_, rfl, hown, hbel⟩
set_option maxHeartbeats 800000 in
theorem padR_any (a : Option Addr) (n c : Nat) (l : List Nat) (w : World) (hn : l.length = n) (hs : Seg .u8 w a (toI l)) (hm : n ≤ 1000000) :
    Calls Try.prog 9 #[.slice a n c] w fun e w' => ∃ v, e = .returned v ∧ OwnB w' w.heap.size v (max n 60) (padL l) ∧ Below w.heap.size w w' := by
  obtain ⟨i0, hi, hz0, hz1, hz2⟩ := info_parts Try.infoByte
  have Q : Hid _ := part_any a n c l w hn hs (by omega)
  have HL : Hid (l.length = n) := hn
  clear hn hs
  go_enter Try.func9, Try.ntmps9
  go_wp2_with fail
  refine Calls.mono Q.out ?_
  rintro e w1 ⟨v, rfl, ho1, hb1⟩
  clear Q
  go_wp2
  go_loopw [3] (fun x wr => ∃ k : Nat, k ≤ 60 - n ∧ OwnB wr w.heap.size x (n + k) (l ++ List.replicate k 0) ∧ Below w.heap.size w wr) (fun x _ => 60 - (match x with | .slice _ m _ => m | _ => 0))
  case atStart => exact ⟨0, Nat.zero_le _, by simpa using ho1, hb1⟩
  case round =>
    obtain ⟨k, hk, ho, hb⟩ := hrel
    clear ho1 hb1
    obtain ⟨g, c', rfl⟩ := owns_shape ho
    by_cases hlt : n + k < 60
    · have e : (toI (l ++ List.replicate (k + 1) 0)).map (Value.int .u8) = (toI (l ++ List.replicate k 0)).map (Value.int .u8) ++ [.int .u8 0] := by
        rw [List.replicate_succ', ← List.append_assoc]; simp [toI]
      have HS : Hid _ := e
      clear e
      obtain ⟨m, hm'⟩ : ∃ m, m = n + k := ⟨_, rfl⟩
      have HM : Hid (m = n + k) := hm'
      rw [← hm'] at ho hlt ⊢
      clear hm'
      go_wp2_with (first | (at_builtin; refine wpList_append_own _ rfl _ _ 22 rfl w.heap.size 5 i0 (.int .u8 0) 1 1 Try.underlying22 hi hz0 hz1 hz2 rfl (by decide) _ _ _ rfl (ho.alloc _) ⟨wr.heap.size, 0, none⟩ 1 1 [.int .u8 0] rfl rfl (news_at _ _ _) ?c2 ?c3 ?c4 ?c5 ?c6))
      case c2 => intro u hu; simp at hu; subst hu; rfl
      case c3 => unfold maxLen; omega
      case c4 => omega
      case c5 => have := hb.size; simp; omega
      case c6 =>
      intro v' w2 ho2 hg2 _
      have hb2 : Below w.heap.size w w2 := (hb.alloc hb.size _).grown hg2 (by have := hb.size; simp; omega) (fun j hj => (ho.lt j hj).1)
      rw [← HS.out] at ho2
      obtain ⟨g2, c2, rfl⟩ := owns_shape ho2
      clear hg2 ho hb
      go_wp2
      go_roundw
      case rel => have := HM.out; exact ⟨k + 1, by omega, by rw [show n + (k + 1) = m + 1 by omega]; exact ho2, hb2⟩
      case measure => have := HM.out; simp; omega
    · have HE : Hid (n + k = max n 60 ∧ k = 60 - n) := ⟨by omega, by omega⟩
      obtain ⟨m, hm'⟩ : ∃ m, m = n + k := ⟨_, rfl⟩
      have HM : Hid (m = n + k) := hm'
      rw [← hm'] at ho hlt ⊢
      have hlt2 : ¬ (m : Int) < 60 := by omega
      clear hm'
      go_wp2
      go_ret
      refine ⟨_, rfl, ?_, hb⟩
      have h1 := HM.out
      have h2 := HE.out
      rw [show max n 60 = m by omega, padL, HL.out, ← h2.2]
      exact ho
end Go.Proofs.Ytdglaigelpghdaa
