/-
  The document's own Pack and Fields beside the program's: one answer.
-/
import Derived.Test.YtcgfdhmegagjdaaRefPack
import Derived.Test.YtcgfdhmegagjdaaPackT
namespace Go.Proofs.Ytcgfdhmegagjdaa
open Go.RowKit

set_option maxHeartbeats 400000 in
theorem refPack_widths (ad ad2 : Option Addr) (cap len2 cap2 : Nat) (ws : List Int) (w : World) (hw : Seg .i64 w ad ws) (hlen : ws.length ≤ 9223372036854775807) (hbad : okW ws = false) :
    Calls Try.prog 51 #[.slice ad ws.length cap, .slice ad2 len2 cap2] w fun e w' => e = .returned (.tuple #[.slice none 0 0, .int .i64 11]) ∧ w = w' := by
  have hbits := bits_any ad cap ws w hw hlen
  rw [show rbN ws = -1 by simp [rbN, hbad]] at hbits
  have HBT : Hid _ := hbits
  clear hbits hbad
  go_enter Try.func51, Try.ntmps51
  go_wp2_with fail
  refine Calls.mono HBT.out ?_
  rintro e w' ⟨rfl, rfl⟩
  go_wp2
  go_ret2
  exact ⟨rfl, rfl⟩
set_option maxHeartbeats 400000 in
theorem refPack_arg (ad ad2 : Option Addr) (cap len2 cap2 : Nat) (ws : List Int) (w : World) (hw : Seg .i64 w ad ws) (hlen : ws.length ≤ 9223372036854775807) (hok : okW ws = true) (hne : len2 ≠ ws.length) :
    Calls Try.prog 51 #[.slice ad ws.length cap, .slice ad2 len2 cap2] w fun e w' => e = .returned (.tuple #[.slice none 0 0, .int .i64 1]) ∧ w = w' := by
  have hbits := bits_any ad cap ws w hw hlen
  have h0 : 0 ≤ rbN ws := by
    obtain ⟨l, rfl, _⟩ := okW_nat ws hok
    simp only [rbN, hok, if_true, sumI_toI]
    omega
  obtain ⟨b, hbb⟩ : ∃ b, b = rbN ws := ⟨_, rfl⟩
  rw [← hbb] at hbits h0
  have HBT : Hid _ := hbits
  have h1 : ((ws.length : Int) != (len2 : Int)) = true := by rw [bne_iff_ne]; omega
  clear hbits hbb hok
  go_enter Try.func51, Try.ntmps51
  go_wp2_with fail
  refine Calls.mono HBT.out ?_
  rintro e w' ⟨rfl, rfl⟩
  go_wp2
  go_ret2
  exact ⟨rfl, rfl⟩

/-- Pack and the document's: the same bytes, each in new memory -/
theorem packs2 (ws vs : List Int) (hlen : ws.length ≤ 9223372036854775807) : ∃ (L : List Nat) (er : Int), L.length ≤ 256 ∧ (∀ x ∈ L, x < 256) ∧
    (∀ (ad ad2 : Option Addr) (len cap len2 cap2 : Nat) (w : World), ws.length = len → vs.length = len2 → Seg .i64 w ad ws → Seg .i64 w ad2 vs → Calls Try.prog 12 #[.slice ad len cap, .slice ad2 len2 cap2] w fun e w' => ∃ a c, e = .returned (.tuple #[.slice a L.length c, .int .i64 er]) ∧ w'.ownsRow w.heap.size 5 1 (.slice a L.length c) L.length ((toI L).map (Value.int .u8)) ∧ Below w.heap.size w w') ∧
    (∀ (ad ad2 : Option Addr) (len cap len2 cap2 : Nat) (w : World), ws.length = len → vs.length = len2 → Seg .i64 w ad ws → Seg .i64 w ad2 vs → Calls Try.prog 51 #[.slice ad len cap, .slice ad2 len2 cap2] w fun e w' => ∃ a c, e = .returned (.tuple #[.slice a L.length c, .int .i64 er]) ∧ w'.ownsRow w.heap.size 5 1 (.slice a L.length c) L.length ((toI L).map (Value.int .u8)) ∧ Below w.heap.size w w') := by
  cases hok : okW ws with
  | false =>
    refine ⟨[], 11, by simp, by simp, ?_, ?_⟩
    · intro ad ad2 len cap len2 cap2 w h1 h2 hs hs2
      subst h1 h2
      refine (pack_widths ad ad2 cap _ cap2 ws w hs hlen hok).mono ?_
      rintro e w' ⟨rfl, rfl⟩
      exact ⟨none, 0, rfl, World.ownsRow_nil _ _ _ _, Below.refl _ _⟩
    · intro ad ad2 len cap len2 cap2 w h1 h2 hs hs2
      subst h1 h2
      refine (refPack_widths ad ad2 cap _ cap2 ws w hs hlen hok).mono ?_
      rintro e w' ⟨rfl, rfl⟩
      exact ⟨none, 0, rfl, World.ownsRow_nil _ _ _ _, Below.refl _ _⟩
  | true =>
    by_cases hne : vs.length = ws.length
    · obtain ⟨wn, rfl, h64, hws, htot⟩ := okW_nat ws hok
      obtain ⟨n, hn⟩ : ∃ n, M.tot wn = 8 * n := ⟨M.tot wn / 8, by omega⟩
      have hn256 : n ≤ 256 := by have := M.tot_le wn 32 (fun x hx => (hws x hx).2); omega
      have hvl : vs.length = wn.length := by rw [hne, toI_len]
      by_cases hf : fitI wn vs wn.length
      · refine ⟨M.bytesN n (vOf wn vs wn.length), 0, by rw [M.length_bytesN]; exact hn256, M.bytesN_lt _ _, ?_, ?_⟩
        · intro ad ad2 len cap len2 cap2 w h1 h2 hs hs2
          rw [toI_len] at h1
          subst h1
          have h2' : len2 = wn.length := by omega
          subst h2'
          refine (pack_any ad ad2 cap cap2 n wn vs w hs hs2 hvl h64 hws hn).mono ?_
          rintro e w' ⟨v, er, rfl, hb, h | h⟩
          · obtain ⟨_, rfl, hown⟩ := h
            rw [bytesV, toI_map] at hown
            obtain ⟨a, c, rfl⟩ := owns_shape hown
            rw [M.length_bytesN]
            exact ⟨a, c, rfl, hown, hb⟩
          · exact absurd hf h.1
        · intro ad ad2 len cap len2 cap2 w h1 h2 hs hs2
          rw [toI_len] at h1
          subst h1
          have h2' : len2 = wn.length := by omega
          subst h2'
          refine (refPack_any ad ad2 cap cap2 n wn vs w hs hs2 hvl h64 hws hn).mono ?_
          rintro e w' ⟨v, er, rfl, hb, h | h⟩
          · obtain ⟨_, rfl, hown⟩ := h
            rw [bytesV, toI_map] at hown
            obtain ⟨a, c, rfl⟩ := owns_shape hown
            rw [M.length_bytesN]
            exact ⟨a, c, rfl, hown, hb⟩
          · exact absurd hf h.1
      · refine ⟨[], 12, by simp, by simp, ?_, ?_⟩
        · intro ad ad2 len cap len2 cap2 w h1 h2 hs hs2
          rw [toI_len] at h1
          subst h1
          have h2' : len2 = wn.length := by omega
          subst h2'
          refine (pack_any ad ad2 cap cap2 n wn vs w hs hs2 hvl h64 hws hn).mono ?_
          rintro e w' ⟨v, er, rfl, hb, h | h⟩
          · exact absurd h.1 hf
          · obtain ⟨_, rfl, rfl⟩ := h
            exact ⟨none, 0, rfl, World.ownsRow_nil _ _ _ _, hb⟩
        · intro ad ad2 len cap len2 cap2 w h1 h2 hs hs2
          rw [toI_len] at h1
          subst h1
          have h2' : len2 = wn.length := by omega
          subst h2'
          refine (refPack_any ad ad2 cap cap2 n wn vs w hs hs2 hvl h64 hws hn).mono ?_
          rintro e w' ⟨v, er, rfl, hb, h | h⟩
          · exact absurd h.1 hf
          · obtain ⟨_, rfl, rfl⟩ := h
            exact ⟨none, 0, rfl, World.ownsRow_nil _ _ _ _, hb⟩
    · refine ⟨[], 1, by simp, by simp, ?_, ?_⟩
      · intro ad ad2 len cap len2 cap2 w h1 h2 hs hs2
        subst h1 h2
        refine (pack_arg ad ad2 cap _ cap2 ws w hs hlen hok hne).mono ?_
        rintro e w' ⟨rfl, rfl⟩
        exact ⟨none, 0, rfl, World.ownsRow_nil _ _ _ _, Below.refl _ _⟩
      · intro ad ad2 len cap len2 cap2 w h1 h2 hs hs2
        subst h1 h2
        refine (refPack_arg ad ad2 cap _ cap2 ws w hs hlen hok hne).mono ?_
        rintro e w' ⟨rfl, rfl⟩
        exact ⟨none, 0, rfl, World.ownsRow_nil _ _ _ _, Below.refl _ _⟩
end Go.Proofs.Ytcgfdhmegagjdaa
