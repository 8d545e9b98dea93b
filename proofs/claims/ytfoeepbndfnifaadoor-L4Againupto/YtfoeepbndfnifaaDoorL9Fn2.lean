/-
  l4.CheckUdp, l4.joined.
-/
import Derived.Test.YtfoeepbndfnifaaDoorL9Fn1
namespace Go.Proofs.YtfoeepbndfnifaaDoor
open Go.RowKit
open L4 (U9 T9)

set_option maxHeartbeats 1600000 in
theorem chkU_any (v : Int) (u : U9) (da : Option Addr) (n c : Nat) (w : World) (hd : u.d.length = n) (hn : n ≤ 1099511627776) :
    Calls Tryd.prog 27 #[.int .i64 v, .agg (uC u da n c)] w fun e w' => e = .returned (.int .i64 ((L4.uChk v u : Nat) : Int)) ∧ Below w.heap.size w w' := by
  have bel : Below w.heap.size w (w.alloc (.cells (uC u da n c) 37)) := (Below.refl _ _).alloc (Nat.le_refl _) _
  have HQ : Hid (∀ W, Calls Tryd.prog 43 #[.agg (uC u da n c)] W fun e w' => e = .returned (.int .i64 ((8 + n : Nat) : Int)) ∧ Below W.heap.size W w') := fun W => udpSize_any u da n c W hn
  have HD : Hid (u.d.length = n) := hd
  clear hd
  obtain ⟨sp, dp, ns, d⟩ := u
  unfold uC at bel HQ ⊢
  simp only at bel HQ HD ⊢
  by_cases hv : v = 4 ∨ v = 6
  case neg =>
    have e4 : (v != 4) = true := by rw [bne_iff_ne]; omega
    have e6 : (v != 6) = true := by rw [bne_iff_ne]; omega
    have HE : Hid (L4.uChk v ⟨sp, dp, ns, d⟩ = 20) := by show _ = _; unfold L4.uChk; rw [if_neg hv]
    clear hv
    go_enter Tryd.func27, Tryd.ntmps27
    go_wp2
    go_ret
    exact ⟨by rw [HE.out]; rfl, bel⟩
  rcases hv with rfl | rfl
  · cases h1 : L4.inB sp 65535 with
    | false =>
      have HE : Hid (L4.uChk 4 ⟨sp, dp, ns, d⟩ = 98) := by show _ = _; unfold L4.uChk L4.uOkF; rw [h1]; rfl
      go_enter Tryd.func27, Tryd.ntmps27
      go_wp2_with fail
      refine Calls.mono (in9_any sp 65535 _) ?_
      rintro e w1 ⟨rfl, rfl⟩
      go_wp2
      go_ret
      exact ⟨by rw [HE.out]; rfl, bel⟩
    | true =>
    cases h2 : L4.inB dp 65535 with
    | false =>
      have HE : Hid (L4.uChk 4 ⟨sp, dp, ns, d⟩ = 98) := by show _ = _; unfold L4.uChk L4.uOkF; rw [h1, h2]; rfl
      go_enter Tryd.func27, Tryd.ntmps27
      go_wp2_with fail
      refine Calls.mono (in9_any sp 65535 _) ?_
      rintro e w1 ⟨rfl, rfl⟩
      go_wp2_with fail
      refine Calls.mono (in9_any dp 65535 _) ?_
      rintro e w1 ⟨rfl, rfl⟩
      go_wp2
      go_ret
      exact ⟨by rw [HE.out]; rfl, bel⟩
    | true =>
    cases ns with
    | false =>
      have HE : Hid (L4.uChk 4 ⟨sp, dp, false, d⟩ = if 65535 < 8 + n then 2 else 0) := by show _ = _; unfold L4.uChk L4.uOkF; rw [← HD.out, h1, h2]; rfl
      go_enter Tryd.func27, Tryd.ntmps27
      go_wp2_with fail
      refine Calls.mono (in9_any sp 65535 _) ?_
      rintro e w1 ⟨rfl, rfl⟩
      go_wp2_with fail
      refine Calls.mono (in9_any dp 65535 _) ?_
      rintro e w1 ⟨rfl, rfl⟩
      go_wp2_with fail
      refine Calls.mono (HQ.out _) ?_
      rintro e w2 ⟨rfl, hb2⟩
      have HF : Hid (Below w.heap.size w w2) := bthen bel hb2
      clear hb2
      obtain ⟨m, hm⟩ : ∃ m, m = 8 + n := ⟨_, rfl⟩
      rw [← hm] at HE ⊢
      clear hm
      by_cases hl : 65535 < m
      · have b : ((65535 : Int) < (m : Int)) := by omega
        rw [if_pos hl] at HE
        clear hl
        go_wp2
        go_ret
        exact ⟨by rw [HE.out]; rfl, HF.out⟩
      · have b : ¬ ((65535 : Int) < (m : Int)) := by omega
        rw [if_neg hl] at HE
        clear hl
        go_wp2
        go_ret
        exact ⟨by rw [HE.out]; rfl, HF.out⟩
    | true =>
      have HE : Hid (L4.uChk 4 ⟨sp, dp, true, d⟩ = if 65535 < 8 + n then 2 else 0) := by show _ = _; unfold L4.uChk L4.uOkF; rw [← HD.out, h1, h2]; rfl
      go_enter Tryd.func27, Tryd.ntmps27
      go_wp2_with fail
      refine Calls.mono (in9_any sp 65535 _) ?_
      rintro e w1 ⟨rfl, rfl⟩
      go_wp2_with fail
      refine Calls.mono (in9_any dp 65535 _) ?_
      rintro e w1 ⟨rfl, rfl⟩
      go_wp2_with fail
      refine Calls.mono (HQ.out _) ?_
      rintro e w2 ⟨rfl, hb2⟩
      have HF : Hid (Below w.heap.size w w2) := bthen bel hb2
      clear hb2
      obtain ⟨m, hm⟩ : ∃ m, m = 8 + n := ⟨_, rfl⟩
      rw [← hm] at HE ⊢
      clear hm
      by_cases hl : 65535 < m
      · have b : ((65535 : Int) < (m : Int)) := by omega
        rw [if_pos hl] at HE
        clear hl
        go_wp2
        go_ret
        exact ⟨by rw [HE.out]; rfl, HF.out⟩
      · have b : ¬ ((65535 : Int) < (m : Int)) := by omega
        rw [if_neg hl] at HE
        clear hl
        go_wp2
        go_ret
        exact ⟨by rw [HE.out]; rfl, HF.out⟩
  · cases h1 : L4.inB sp 65535 with
    | false =>
      have HE : Hid (L4.uChk 6 ⟨sp, dp, ns, d⟩ = 98) := by show _ = _; unfold L4.uChk L4.uOkF; rw [h1]; rfl
      go_enter Tryd.func27, Tryd.ntmps27
      go_wp2_with fail
      refine Calls.mono (in9_any sp 65535 _) ?_
      rintro e w1 ⟨rfl, rfl⟩
      go_wp2
      go_ret
      exact ⟨by rw [HE.out]; rfl, bel⟩
    | true =>
    cases h2 : L4.inB dp 65535 with
    | false =>
      have HE : Hid (L4.uChk 6 ⟨sp, dp, ns, d⟩ = 98) := by show _ = _; unfold L4.uChk L4.uOkF; rw [h1, h2]; rfl
      go_enter Tryd.func27, Tryd.ntmps27
      go_wp2_with fail
      refine Calls.mono (in9_any sp 65535 _) ?_
      rintro e w1 ⟨rfl, rfl⟩
      go_wp2_with fail
      refine Calls.mono (in9_any dp 65535 _) ?_
      rintro e w1 ⟨rfl, rfl⟩
      go_wp2
      go_ret
      exact ⟨by rw [HE.out]; rfl, bel⟩
    | true =>
    cases ns with
    | false =>
      have HE : Hid (L4.uChk 6 ⟨sp, dp, false, d⟩ = if 65535 < 8 + n then 2 else 0) := by show _ = _; unfold L4.uChk L4.uOkF; rw [← HD.out, h1, h2]; rfl
      go_enter Tryd.func27, Tryd.ntmps27
      go_wp2_with fail
      refine Calls.mono (in9_any sp 65535 _) ?_
      rintro e w1 ⟨rfl, rfl⟩
      go_wp2_with fail
      refine Calls.mono (in9_any dp 65535 _) ?_
      rintro e w1 ⟨rfl, rfl⟩
      go_wp2_with fail
      refine Calls.mono (HQ.out _) ?_
      rintro e w2 ⟨rfl, hb2⟩
      have HF : Hid (Below w.heap.size w w2) := bthen bel hb2
      clear hb2
      obtain ⟨m, hm⟩ : ∃ m, m = 8 + n := ⟨_, rfl⟩
      rw [← hm] at HE ⊢
      clear hm
      by_cases hl : 65535 < m
      · have b : ((65535 : Int) < (m : Int)) := by omega
        rw [if_pos hl] at HE
        clear hl
        go_wp2
        go_ret
        exact ⟨by rw [HE.out]; rfl, HF.out⟩
      · have b : ¬ ((65535 : Int) < (m : Int)) := by omega
        rw [if_neg hl] at HE
        clear hl
        go_wp2
        go_ret
        exact ⟨by rw [HE.out]; rfl, HF.out⟩
    | true =>
      have HE : Hid (L4.uChk 6 ⟨sp, dp, true, d⟩ = 98) := by show _ = _; unfold L4.uChk L4.uOkF; rw [h1, h2]; rfl
      go_enter Tryd.func27, Tryd.ntmps27
      go_wp2_with fail
      refine Calls.mono (in9_any sp 65535 _) ?_
      rintro e w1 ⟨rfl, rfl⟩
      go_wp2_with fail
      refine Calls.mono (in9_any dp 65535 _) ?_
      rintro e w1 ⟨rfl, rfl⟩
      go_wp2
      go_ret
      exact ⟨by rw [HE.out]; rfl, bel⟩

/-- parts that lie below -/
theorem parts_below {w W : World} {pa : Option Addr} {ps : List PV} (h : PartsAt w (fun k => w.heap.size ≤ k) pa ps) (hb : Below w.heap.size w W) (v : Value) (hv : ∀ q, v.ownBlock = some q → w.heap.size ≤ q) : PartsAt W (BS w.heap.size v) pa ps := by
  rcases h with h | ⟨b, off, e, h1, h2, h3⟩
  · exact .inl h
  · refine .inr ⟨b, off, e, ?_, Nat.lt_of_lt_of_le h2 hb.size, fun i p hp => ?_⟩
    · rintro (q | q)
      · omega
      · have := hv b q; omega
    · obtain ⟨c1, c2, c3⟩ := h3 i p hp
      refine ⟨(hb.cell (p := ⟨b, off + i, none⟩) h2).trans c1, c2.old hb, fun x hx hx2 => ?_⟩
      have := c3 x hx hx2
      rintro (q | q)
      · omega
      · exact this (hv _ q)
theorem spl_len9 (l : List Nat) (at' n x : Nat) (h : at' + n ≤ l.length) : (spl l at' (byN n x)).length = l.length := by
  simp [spl, byN_len]; omega
set_option maxHeartbeats 1600000 in
theorem joined_any (size at' k : Nat) (pa : Option Addr) (m cap : Nat) (ps : List PV) (w : World) (hm : ps.length = m) (hp : PartsAt w (fun k => w.heap.size ≤ k) pa ps) (hs : (flat ps).length = size) (hz : size ≤ 65535) (ha : at' + 2 ≤ size) (hk : k ≤ 65535) (hml : m ≤ 1000) :
    Calls Tryd.prog 48 #[.int .i64 size, .int .i64 at', .int .i64 k, .slice pa m cap] w fun e w' => ∃ g, e = .returned (.tuple #[.slice (some ⟨g, 0, none⟩) size size, .int .i64 0]) ∧ OwnB w' w.heap.size (.slice (some ⟨g, 0, none⟩) size size) size (spl (flat ps) at' (byN 2 k)) ∧ Below w.heap.size w w' := by
  have QN : Hid _ := newB_ok size w hz
  have HP : Hid _ := hp
  have HS : Hid ((flat ps).length = size) := hs
  have HM : Hid (ps.length = m) := hm
  have u64 : IntKind.u64.wrap (k : Int) = (k : Int) := by rw [IntKind.wrap_u64]; omega
  clear hp hs hm
  go_enter Tryd.func48, Tryd.ntmps48
  go_wp2_with fail
  refine Calls.mono QN.out ?_
  rintro e w1 ⟨rfl, hB1, hw1⟩
  have hb1 : Below w.heap.size w w1 := by rw [hw1]; exact (Below.refl _ _).alloc (Nat.le_refl _) _
  have QB : Hid _ := bytesB_ok w.heap.size (.slice none 0 0) size [] pa cap ps w1 hB1 (parts_below HP.out hb1 _ (by intro q hq; cases hq)) (by rw [HS.out]; simp) hz (by rw [HM.out]; omega)
  rw [HM.out, List.nil_append] at QB
  obtain ⟨B, hB⟩ : ∃ B, B = w.heap.size := ⟨_, rfl⟩
  rw [← hB] at QB ⊢
  have HB : Hid (B = w.heap.size) := hB
  clear hw1 hB1 QN hB
  go_wp2_with fail
  refine Calls.mono QB.out ?_
  rintro e w2 ⟨rfl, v2, hb2, hq2, hc2⟩
  have bel2 : Below w.heap.size w w2 := hb1.trans (hc2.below (fun z hz => by
    rcases hz with e | e
    · rw [e, HB.out]; exact Nat.le_refl _
    · cases e) hb1.size)
  have HN2 : Hid (∀ q, v2.ownBlock = some q → w.heap.size ≤ q) := by
    intro q hq
    rcases hq2 q hq with h1 | h1
    · cases h1
    · have := hb1.size; omega
  have QP : Hid _ := patchB_total B v2 size (flat ps) at' 2 k w2 hb2 (by omega)
  have hte : tE at' 2 k (flat ps).length = 0 := by
    rw [HS.out]
    unfold tE
    rw [if_neg (by omega), if_neg (by show ¬ 256 ^ 2 ≤ k; omega), if_neg (by omega)]
  rw [tL, hte, if_pos rfl] at QP
  have e1 : ((at' : Int)).toNat = at' := by omega
  have e2 : ((2 : Int)).toNat = 2 := rfl
  rw [e1, e2] at QP
  clear hb2 hq2 hc2 QB hb1 hte e1 e2
  go_wp2_with fail
  refine Calls.mono QP.out ?_
  rintro e w3 ⟨rfl, v3, hb3, hq3, hc3⟩
  have bel3 : Below w.heap.size w w3 := bel2.trans (hc3.below (fun z hz => by
    rcases hz with e | e
    · rw [e, HB.out]; exact Nat.le_refl _
    · exact HN2.out z e) bel2.size)
  have HL : Hid ((spl (flat ps) at' (byN 2 k)).length = size) := by show _ = _; rw [spl_len9 _ _ _ _ (by rw [HS.out]; exact ha), HS.out]
  have QD : Hid _ := doneB_any B v3 size (spl (flat ps) at' (byN 2 k)) w3 hb3 (by rw [HL.out]; exact hz)
  rw [HL.out] at QD
  clear hb3 hq3 hc3 QP bel2
  go_wp2_with fail
  refine Calls.mono QD.out ?_
  rintro e w4 ⟨g, rfl, ho, hb4⟩
  have HF : Hid (Below w.heap.size w w4) := bthen bel3 hb4
  have HO : Hid _ := owns_le ho bel3.size
  clear ho hb4 QD bel3
  go_wp2
  go_ret2
  exact ⟨g, rfl, HO.out, HF.out⟩
end Go.Proofs.YtfoeepbndfnifaaDoor
