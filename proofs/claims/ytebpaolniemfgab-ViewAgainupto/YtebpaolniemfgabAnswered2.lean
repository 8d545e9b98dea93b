/-
  The statements' answered, of a Fields, of a Pack and of any other kind: the look's answer is the document's.
-/
import Derived.Test.YtebpaolniemfgabAnswered
import Derived.Test.YtebpaolniemfgabRefPack
namespace Go.Proofs.Ytebpaolniemfgab
open Go.RowKit

set_option maxRecDepth 100000 in
set_option maxHeartbeats 800000 in
theorem answered_fields (at' n : Int) (ba wa va : Option Addr) (bl bc wl wc vl vc : Nat) (bs : List Nat) (ws : List Int) (w : World) (hl : bs.length = bl) (hb : Seg .u8 w ba (toI bs)) (h256 : ∀ x ∈ bs, x < 256) (hbc : bl ≤ bc) (hc : bc ≤ 9223372036854775807) (hbl : bl ≤ 140737488355328) (ha : at' ≤ 9223372036854775807)
    (hwl : ws.length = wl) (hw : Seg .i64 w wa ws) (hw2 : wl ≤ 1048576) :
    Calls Try.prog 25 #[.agg #[.int .i64 2, .slice ba bl bc, .int .i64 at', .int .i64 n, .slice wa wl wc, .slice va vl vc]] w fun e w' => e = .returned (.bool true) ∧ Below w.heap.size w w' := by
  have hB : ∀ X, Below w.heap.size w (w.alloc X) := fun X => (Below.refl _ _).alloc (Nat.le_refl _) X
  have hfl : (fV bs at' ws).length ≤ 1048576 := by
    unfold fV
    split
    · rw [M.length_fieldsN]; simp; omega
    · simp
  have HL : Hid (bs.length = bl) := hl
  have HWL : Hid (ws.length = wl) := hwl
  clear hl hwl
  go_enter Try.func25, Try.ntmps25
  go_wp2_with fail
  refine (fields_total ba wa bl bc wl wc at' bs ws _ HL.out HWL.out (hb.old (hB _)) (hw.old (hB _)) h256 hbc hc ha (by omega)).mono ?_
  rintro e w1 ⟨xv, rfl, hxo, hb1⟩
  obtain ⟨xa, xc, rfl, hxs, _, _, _⟩ := owns_seg hxo
  have c1 := boxed hb1 1
  have c2 := boxed hb1 2
  have c4 := boxed hb1 4
  simp only [List.getElem?_toArray, List.getElem?_cons_succ, List.getElem?_cons_zero] at c1 c2 c4
  have hB1 : Below w.heap.size w w1 := (hB _).trans (hb1.mono (by simp))
  clear hb1 hxo
  go_wp2_with fail
  refine (refFields_total ba wa bl bc wl wc at' bs ws _ HL.out HWL.out (hb.old hB1) (hw.old hB1) h256 hbl ha (by omega)).mono ?_
  rintro e w2 ⟨yv, rfl, hyo, hb2⟩
  obtain ⟨ya, yc, rfl, hys, _, _, _⟩ := owns_seg hyo
  have hB2 : Below w.heap.size w w2 := hB1.trans (hb2.mono hB1.size)
  clear hyo
  go_wp2_with fail
  refine (sameInts_true xa ya xc yc _ (toI (fV bs at' ws)) _ (hxs.old hb2) hys (toI_len _) (by omega)).mono ?_
  rintro e w3 ⟨rfl, hb3⟩
  have hB3 : Below w.heap.size w w3 := hB2.trans (hb3.mono hB2.size)
  go_wp2_with (first | (go_at_call 11; refine (num_any _ _).mono ?_; rintro e w' ⟨rfl, rfl⟩))
  go_ret
  exact ⟨by simp, hB3⟩

set_option maxHeartbeats 400000 in
theorem refPack_widths (ad ad2 : Option Addr) (cap len2 cap2 : Nat) (ws : List Int) (w : World) (hw : Seg .i64 w ad ws) (hlen : ws.length ≤ 9223372036854775807) (hbad : okW ws = false) :
    Calls Try.prog 41 #[.slice ad ws.length cap, .slice ad2 len2 cap2] w fun e w' => e = .returned (.tuple #[.slice none 0 0, .int .i64 11]) ∧ w = w' := by
  have hbits := bits_any ad cap ws w hw hlen
  rw [show rbN ws = -1 by simp [rbN, hbad]] at hbits
  have HBT : Hid _ := hbits
  clear hbits hbad
  go_enter Try.func41, Try.ntmps41
  go_wp2_with fail
  refine Calls.mono HBT.out ?_
  rintro e w' ⟨rfl, rfl⟩
  go_wp2
  go_ret2
  exact ⟨rfl, rfl⟩
set_option maxHeartbeats 400000 in
theorem refPack_arg (ad ad2 : Option Addr) (cap len2 cap2 : Nat) (ws : List Int) (w : World) (hw : Seg .i64 w ad ws) (hlen : ws.length ≤ 9223372036854775807) (hok : okW ws = true) (hne : len2 ≠ ws.length) :
    Calls Try.prog 41 #[.slice ad ws.length cap, .slice ad2 len2 cap2] w fun e w' => e = .returned (.tuple #[.slice none 0 0, .int .i64 1]) ∧ w = w' := by
  have hbits := bits_any ad cap ws w hw hlen
  have h0 : 0 ≤ rbN ws := by
    obtain ⟨l, rfl, _⟩ := okW_nat ws hok
    simp only [rbN, hok, if_true, sumI_toI]
    omega
  obtain ⟨b, hbb⟩ : ∃ b, b = rbN ws := ⟨_, rfl⟩
  rw [← hbb] at hbits h0
  have HBT : Hid _ := hbits
  have h1 : ((ws.length : Int) != (len2 : Int)) = true := by rw [bne_iff_ne]; omega
  clear hbits hbb hok
  go_enter Try.func41, Try.ntmps41
  go_wp2_with fail
  refine Calls.mono HBT.out ?_
  rintro e w' ⟨rfl, rfl⟩
  go_wp2
  go_ret2
  exact ⟨rfl, rfl⟩

/-- what Pack and the document's Pack answer is one: an error's number and bytes -/
theorem packs (wl vl : Nat) (ws vs : List Int) (hwl : ws.length = wl) (hvl : vs.length = vl) (hw2 : wl ≤ 1048576) (hv2 : vl ≤ 1048576) :
    ∃ (er : Int) (cs : List Nat), (∀ x ∈ cs, x < 256) ∧
      (∀ (W : World) (ad ad2 : Option Addr) (cap cap2 : Nat), Seg .i64 W ad ws → Seg .i64 W ad2 vs → Calls Try.prog 40 #[.slice ad wl cap, .slice ad2 vl cap2] W fun e w' => ∃ a c, e = .returned (.tuple #[.slice a cs.length c, .int .i64 er]) ∧ Seg .u8 w' a (toI cs) ∧ Below W.heap.size W w') ∧
      (∀ (W : World) (ad ad2 : Option Addr) (cap cap2 : Nat), Seg .i64 W ad ws → Seg .i64 W ad2 vs → Calls Try.prog 41 #[.slice ad wl cap, .slice ad2 vl cap2] W fun e w' => ∃ a c, e = .returned (.tuple #[.slice a cs.length c, .int .i64 er]) ∧ Seg .u8 w' a (toI cs) ∧ Below W.heap.size W w') := by
  subst hwl hvl
  by_cases hok : okW ws = true
  · by_cases hlen : vs.length = ws.length
    · obtain ⟨wn, rfl, h64, hws, h8⟩ := okW_nat ws hok
      obtain ⟨n, hn⟩ : ∃ n, M.tot wn = 8 * n := ⟨M.tot wn / 8, by omega⟩
      rw [toI_len] at hlen
      rw [hlen, toI_len]
      by_cases hfit : fitI wn vs wn.length
      · refine ⟨0, M.bytesN n (vOf wn vs wn.length), M.bytesN_lt _ _, ?_, ?_⟩
        · intro W ad ad2 cap cap2 h1 h2
          refine (pack_any ad ad2 cap cap2 n wn vs W h1 h2 hlen h64 hws hn).mono ?_
          rintro e w' ⟨v, er, rfl, hb, h | h⟩
          · obtain ⟨_, rfl, hown⟩ := h
            rw [bytesV, toI_map] at hown
            obtain ⟨a, c, rfl, hs, _, _, _⟩ := owns_seg hown
            exact ⟨a, c, by rw [M.length_bytesN], hs, hb⟩
          · exact absurd hfit h.1
        · intro W ad ad2 cap cap2 h1 h2
          refine (refPack_any ad ad2 cap cap2 n wn vs W h1 h2 hlen h64 hws hn).mono ?_
          rintro e w' ⟨v, er, rfl, hb, h | h⟩
          · obtain ⟨_, rfl, hown⟩ := h
            rw [bytesV, toI_map] at hown
            obtain ⟨a, c, rfl, hs, _, _, _⟩ := owns_seg hown
            exact ⟨a, c, by rw [M.length_bytesN], hs, hb⟩
          · exact absurd hfit h.1
      · refine ⟨12, [], (by intro x hx; cases hx), ?_, ?_⟩
        · intro W ad ad2 cap cap2 h1 h2
          refine (pack_any ad ad2 cap cap2 n wn vs W h1 h2 hlen h64 hws hn).mono ?_
          rintro e w' ⟨v, er, rfl, hb, h | h⟩
          · exact absurd h.1 hfit
          · obtain ⟨_, rfl, rfl⟩ := h
            exact ⟨none, 0, rfl, .inl rfl, hb⟩
        · intro W ad ad2 cap cap2 h1 h2
          refine (refPack_any ad ad2 cap cap2 n wn vs W h1 h2 hlen h64 hws hn).mono ?_
          rintro e w' ⟨v, er, rfl, hb, h | h⟩
          · exact absurd h.1 hfit
          · obtain ⟨_, rfl, rfl⟩ := h
            exact ⟨none, 0, rfl, .inl rfl, hb⟩
    · refine ⟨1, [], (by intro x hx; cases hx), ?_, ?_⟩
      · intro W ad ad2 cap cap2 h1 h2
        refine (pack_arg ad ad2 cap vs.length cap2 ws W h1 (by omega) hok hlen).mono ?_
        rintro e w' ⟨rfl, rfl⟩
        exact ⟨none, 0, rfl, .inl rfl, Below.refl _ _⟩
      · intro W ad ad2 cap cap2 h1 h2
        refine (refPack_arg ad ad2 cap vs.length cap2 ws W h1 (by omega) hok hlen).mono ?_
        rintro e w' ⟨rfl, rfl⟩
        exact ⟨none, 0, rfl, .inl rfl, Below.refl _ _⟩
  · have hbad : okW ws = false := by simpa using hok
    refine ⟨11, [], (by intro x hx; cases hx), ?_, ?_⟩
    · intro W ad ad2 cap cap2 h1 h2
      refine (pack_widths ad ad2 cap vs.length cap2 ws W h1 (by omega) hbad).mono ?_
      rintro e w' ⟨rfl, rfl⟩
      exact ⟨none, 0, rfl, .inl rfl, Below.refl _ _⟩
    · intro W ad ad2 cap cap2 h1 h2
      refine (refPack_widths ad ad2 cap vs.length cap2 ws W h1 (by omega) hbad).mono ?_
      rintro e w' ⟨rfl, rfl⟩
      exact ⟨none, 0, rfl, .inl rfl, Below.refl _ _⟩

set_option maxRecDepth 100000 in
set_option maxHeartbeats 800000 in
theorem answered_pack (at' n : Int) (ba wa va : Option Addr) (bl bc wl wc vl vc : Nat) (ws vs : List Int) (w : World)
    (hwl : ws.length = wl) (hw : Seg .i64 w wa ws) (hw2 : wl ≤ 1048576) (hvl : vs.length = vl) (hv : Seg .i64 w va vs) (hv2 : vl ≤ 1048576) :
    Calls Try.prog 25 #[.agg #[.int .i64 3, .slice ba bl bc, .int .i64 at', .int .i64 n, .slice wa wl wc, .slice va vl vc]] w fun e w' => e = .returned (.bool true) ∧ Below w.heap.size w w' := by
  have hB : ∀ X, Below w.heap.size w (w.alloc X) := fun X => (Below.refl _ _).alloc (Nat.le_refl _) X
  obtain ⟨er, cs, hc256, hp, hr⟩ := packs wl vl ws vs hwl hvl hw2 hv2
  have HP : Hid _ := hp
  have HR : Hid _ := hr
  clear hp hr hwl hvl
  go_enter Try.func25, Try.ntmps25
  go_wp2_with fail
  refine Calls.mono (HP.out _ wa va wc vc (hw.old (hB _)) (hv.old (hB _))) ?_
  rintro e w1 ⟨xa, xc, rfl, hxs, hb1⟩
  have c4 := boxed hb1 4
  have c5 := boxed hb1 5
  simp only [List.getElem?_toArray, List.getElem?_cons_succ, List.getElem?_cons_zero] at c4 c5
  have hB1 : Below w.heap.size w w1 := (hB _).trans (hb1.mono (by simp))
  clear hb1
  go_wp2_with fail
  refine Calls.mono (HR.out _ wa va wc vc (hw.old hB1) (hv.old hB1)) ?_
  rintro e w2 ⟨ya, yc, rfl, hys, hb2⟩
  have hB2 : Below w.heap.size w w2 := hB1.trans (hb2.mono hB1.size)
  go_wp2_with fail
  refine (same_true xa ya xc yc _ cs _ (hxs.old hb2) hys rfl hc256).mono ?_
  rintro e w' ⟨rfl, rfl⟩
  go_wp2_with (first | (go_at_call 11; refine (num_any _ _).mono ?_; rintro e w' ⟨rfl, rfl⟩))
  go_ret
  exact ⟨by simp, hB2⟩
end Go.Proofs.Ytebpaolniemfgab
