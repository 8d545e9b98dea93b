/-
  The document's own builder: Join refused, Put, Patch.
-/
import Derived.Test.YtcgfdhmegagjdaaRBld2
namespace Go.Proofs.Ytcgfdhmegagjdaa
open Go.RowKit

set_option maxRecDepth 100000 in
set_option maxHeartbeats 800000 in
theorem joinR_no (B : Nat) (v : Value) (mx : Nat) (l : List Nat) (pa : Option Addr) (cap : Nat) (ps : List PV) (w : World) (h : RBl w B v mx l) (hp : PartsAt w (BS B v) pa ps) (hfit : mx < l.length + (flat ps).length) (hmx : mx ≤ 65535) (hl : l.length ≤ mx) (hpl : ps.length ≤ 9223372036854775807) (hbs : ∀ p ∈ ps, p.bs.length ≤ 4611686018427387904) :
    Calls Try.prog 42 #[.pointer (some ⟨B, 0, none⟩), .slice pa ps.length cap] w fun e w' => e = .returned (.int .i64 13) ∧ w = w' := by
  have h0 := h.c0
  have h1 := h.c1
  obtain ⟨a, c, rfl⟩ := owns_shape h.own
  go_enter Try.func42, Try.ntmps42
  go_wp2
  go_loop [5, 6] (fun r ix => ∃ k : Nat, k ≤ ps.length ∧ ix = .int .i64 k ∧ r = .int .i64 ((l.length + (flat (ps.take k)).length : Nat) : Int) ∧ l.length + (flat (ps.take k)).length ≤ mx) (fun _ ix => ps.length - (intOf ix).toNat)
  case atStart => exact ⟨0, Nat.zero_le _, rfl, by simp [flat], by simpa [flat] using hl⟩
  case round =>
    obtain ⟨k, hk, rfl, rfl, hle⟩ := hrel
    by_cases hlt : k < ps.length
    · obtain ⟨p, hpk⟩ : ∃ p, ps[k]? = some p := ⟨ps[k], by simp [hlt]⟩
      rcases hp with hnil | ⟨b, off, rfl, hSb, hbl, hc⟩
      · rw [hnil] at hlt; simp at hlt
      obtain ⟨hcc, _, _⟩ := hc k p hpk
      have hft := flat_take ps k p hpk
      have HFT : Hid _ := hft
      have hpb := hbs p (List.mem_of_getElem? hpk)
      obtain ⟨f, hf⟩ : ∃ f, f = l.length + (flat (ps.take k)).length := ⟨_, rfl⟩
      rw [← hf] at hle ⊢
      obtain ⟨q, hq⟩ : ∃ q, q = p.bs.length := ⟨_, rfl⟩
      rw [← hq] at hcc hpb
      have HF : Hid (f = l.length + (flat (ps.take k)).length) := hf
      have HQ : Hid (q = p.bs.length) := hq
      clear hft hf hq hpk hc hbs
      by_cases hroom : mx < f + q
      · go_wp2
        go_ret
        exact ⟨rfl, rfl⟩
      · go_wp2
        go_round
        case rel => exact ⟨k + 1, by omega, by go_num, by rw [HFT.out, List.length_append, ← HQ.out]; have := HF.out; go_num, by rw [HFT.out, List.length_append, ← HQ.out]; have := HF.out; omega⟩
        case measure => simp [intOf]; omega
    · have hkk : k = ps.length := by omega
      rw [hkk, List.take_length] at hle
      omega

/-- what Put answers, and what stands then -/
def pE (n : Int) (x len mx : Nat) : Int := if n < 1 ∨ 8 < n then 1 else if 256 ^ n.toNat ≤ x then 12 else if mx < len + n.toNat then 13 else 0
def pL (n : Int) (x : Nat) (l : List Nat) (mx : Nat) : List Nat := if pE n x l.length mx = 0 then l ++ byN n.toNat x else l
theorem pE_fit (m x len mx : Nat) (h1 : ¬ ((m : Int) < 1 ∨ 8 < (m : Int))) (h : x < 256 ^ m) : pE m x len mx = if mx < len + m then 13 else 0 := by
  unfold pE
  rw [if_neg h1, Int.toNat_natCast, if_neg (by omega)]
theorem pL_len (n : Int) (x : Nat) (l : List Nat) (mx : Nat) (h : l.length ≤ mx) : (pL n x l mx).length ≤ mx := by
  unfold pL
  split
  · rename_i e
    unfold pE at e
    split at e
    · simp at e
    · split at e
      · simp at e
      · split at e
        · simp at e
        · simp [byN_len]; omega
  · exact h
theorem pL_256 (n : Int) (x : Nat) (l : List Nat) (mx : Nat) (h : ∀ y ∈ l, y < 256) : ∀ y ∈ pL n x l mx, y < 256 := by
  unfold pL
  split
  · intro y hy
    rcases List.mem_append.1 hy with hy | hy
    · exact h y hy
    · exact byN_lt _ _ y hy
  · exact h

/-- a builder behind a call: what it holds, where -/
def After (K : World → Nat → Value → Nat → List Nat → Prop) (w : World) (B : Nat) (v : Value) (mx : Nat) (l' : List Nat) (w' : World) : Prop :=
  ∃ v', K w' B v' mx l' ∧ (∀ q, v'.ownBlock = some q → v.ownBlock = some q ∨ w.heap.size ≤ q) ∧ Ch (BS B v) w w'
theorem After.same {K : World → Nat → Value → Nat → List Nat → Prop} {w w' : World} {B : Nat} {v : Value} {mx : Nat} {l : List Nat} (h : K w' B v mx l) (hb : Below w.heap.size w w') : After K w B v mx l w' := ⟨v, h, fun _ hq => .inl hq, Ch.ofBelow hb⟩

theorem putB_total (B : Nat) (v : Value) (mx : Nat) (l : List Nat) (n : Int) (x : Nat) (w : World) (h : Bld w B v mx l) (hl : l.length ≤ mx) (hmx : mx ≤ 65535) :
    Calls Try.prog 10 #[.pointer (some ⟨B, 0, none⟩), .int .i64 n, .int .u64 x] w fun e w' => e = .returned (.int .i64 (pE n x l.length mx)) ∧ After Bld w B v mx (pL n x l mx) w' := by
  by_cases h1 : n < 1 ∨ 8 < n
  · have e : pE n x l.length mx = 1 := if_pos h1
    rw [pL, e, if_neg (by decide)]
    refine (putB_arg B n x w h1).mono ?_
    rintro e w' ⟨rfl, hb⟩
    exact ⟨rfl, .same (h.below hb) hb⟩
  · obtain ⟨m, rfl⟩ : ∃ m : Nat, n = (m : Int) := ⟨n.toNat, by omega⟩
    by_cases h2 : 256 ^ m ≤ x
    · have e : pE m x l.length mx = 12 := by unfold pE; rw [if_neg h1, if_pos (by simpa using h2)]
      rw [pL, e, if_neg (by decide)]
      refine (putB_val B m x w (by omega) (by omega) h2).mono ?_
      rintro e w' ⟨rfl, hb⟩
      exact ⟨rfl, .same (h.below hb) hb⟩
    · by_cases h3 : mx < l.length + m
      · have e : pE m x l.length mx = 13 := by unfold pE; rw [if_neg h1, if_neg (by simpa using h2), if_pos (by simpa using h3)]
        rw [pL, e, if_neg (by decide)]
        refine (putB_no B v mx l m x w h (by omega) (by omega) (by omega) hl h3 hmx).mono ?_
        rintro e w' ⟨rfl, hb⟩
        exact ⟨rfl, .same (h.below hb) hb⟩
      · have e : pE m x l.length mx = 0 := by unfold pE; rw [if_neg h1, if_neg (by simpa using h2), if_neg (by simpa using h3)]
        rw [pL, e, if_pos rfl]
        refine (putB_ok B v mx l m x w h (by omega) (by omega) (by omega) (by omega) hmx).mono ?_
        rintro e w' ⟨rfl, hh⟩
        exact ⟨rfl, hh⟩

/-- Bytes and Join -/
def bE (ps : List PV) (len mx : Nat) : Int := if mx < len + (flat ps).length then 13 else 0
def bL (ps : List PV) (l : List Nat) (mx : Nat) : List Nat := if mx < l.length + (flat ps).length then l else l ++ flat ps
theorem bytesB_total (B : Nat) (v : Value) (mx : Nat) (l : List Nat) (pa : Option Addr) (cap : Nat) (ps : List PV) (w : World) (h : Bld w B v mx l) (hp : PartsAt w (BS B v) pa ps) (hmx : mx ≤ 65535) (hl : l.length ≤ mx) (hpl : ps.length ≤ 9223372036854775807) (hbs : ∀ p ∈ ps, p.bs.length ≤ 4611686018427387904) :
    Calls Try.prog 11 #[.pointer (some ⟨B, 0, none⟩), .slice pa ps.length cap] w fun e w' => e = .returned (.int .i64 (bE ps l.length mx)) ∧ After Bld w B v mx (bL ps l mx) w' := by
  by_cases hf : mx < l.length + (flat ps).length
  · rw [bE, bL, if_pos hf, if_pos hf]
    refine (bytesB_no B v mx l pa cap ps w h hp hf hmx hl hpl hbs).mono ?_
    rintro e w' ⟨rfl, hb⟩
    exact ⟨rfl, .same (h.below hb) hb⟩
  · rw [bE, bL, if_neg hf, if_neg hf]
    exact bytesB_ok B v mx l pa cap ps w h hp (by omega) hmx hpl
theorem joinR_total (B : Nat) (v : Value) (mx : Nat) (l : List Nat) (pa : Option Addr) (cap : Nat) (ps : List PV) (w : World) (h : RBl w B v mx l) (hp : PartsAt w (BS B v) pa ps) (hmx : mx ≤ 65535) (hl : l.length ≤ mx) (hpl : ps.length ≤ 9223372036854775807) (hbs : ∀ p ∈ ps, p.bs.length ≤ 4611686018427387904) :
    Calls Try.prog 42 #[.pointer (some ⟨B, 0, none⟩), .slice pa ps.length cap] w fun e w' => e = .returned (.int .i64 (bE ps l.length mx)) ∧ After RBl w B v mx (bL ps l mx) w' := by
  by_cases hf : mx < l.length + (flat ps).length
  · rw [bE, bL, if_pos hf, if_pos hf]
    refine (joinR_no B v mx l pa cap ps w h hp hf hmx hl hpl hbs).mono ?_
    rintro e w' ⟨rfl, rfl⟩
    exact ⟨rfl, .same h (Below.refl _ _)⟩
  · rw [bE, bL, if_neg hf, if_neg hf]
    exact joinR_ok B v mx l pa cap ps w h hp (by omega) hmx hpl

theorem parts_one' (w : World) (S : Nat → Prop) (g off n c : Nat) (l : List Nat) (hl : l.length = n) (hseg : Seg .u8 w (some ⟨g, off, none⟩) (toI l)) (hN : ¬ S g) (hM : ¬ S w.heap.size) :
    PartsAt (w.alloc (.cells #[.slice (some ⟨g, off, none⟩) n c] 22)) S (some ⟨w.heap.size, 0, none⟩) [⟨some ⟨g, off, none⟩, c, l⟩] := by
  refine .inr ⟨_, _, rfl, hM, by simp, fun i p hp => ?_⟩
  cases i with
  | zero =>
    simp at hp
    subst hp
    refine ⟨by simp [go_sem, hl], hseg.old ((Below.refl _ _).alloc (Nat.le_refl _) _), ?_⟩
    intro y _ hy
    simp at hy
    subst hy
    exact hN
  | succ i => simp at hp
theorem rbs_out {w : World} {B : Nat} {v : Value} {mx : Nat} {l : List Nat} (h : RBl w B v mx l) (k : Nat) (hk : w.heap.size ≤ k) : ¬ BS B v k := by
  rintro (e | e)
  · have := h.lt; omega
  · have := (h.own.lt k e).2; omega
set_option maxRecDepth 100000 in
set_option maxHeartbeats 800000 in
theorem putR_total (B : Nat) (v : Value) (mx : Nat) (l : List Nat) (n : Int) (x : Nat) (w : World) (h : RBl w B v mx l) (hl : l.length ≤ mx) (hmx : mx ≤ 65535) (hx : x < 18446744073709551616) :
    Calls Try.prog 39 #[.pointer (some ⟨B, 0, none⟩), .int .i64 n, .int .u64 x] w fun e w' => e = .returned (.int .i64 (pE n x l.length mx)) ∧ After RBl w B v mx (pL n x l mx) w' := by
  by_cases h1 : n < 1 ∨ 8 < n
  · have e : pE n x l.length mx = 1 := if_pos h1
    rw [pL, e, if_neg (by decide)]
    have HH : Hid (n < 1 ∨ 8 < n) := h1
    clear h1
    go_enter Try.func39, Try.ntmps39
    go_wp2_with fail
    refine (refBytes_arg n x _ HH.out).mono ?_
    rintro e w1 ⟨rfl, rfl⟩
    go_wp2
    go_ret
    exact ⟨rfl, .same h (Below.refl _ _)⟩
  · obtain ⟨m, rfl⟩ : ∃ m : Nat, n = (m : Int) := ⟨n.toNat, by omega⟩
    obtain ⟨er, her⟩ : ∃ er, er = pE m x l.length mx := ⟨_, rfl⟩
    obtain ⟨l2, hl2⟩ : ∃ l2, l2 = pL m x l mx := ⟨_, rfl⟩
    rw [← her, ← hl2]
    have HE : Hid (er = pE m x l.length mx) := her
    have HL : Hid (l2 = pL m x l mx) := hl2
    have HX : Hid (x < 18446744073709551616) := hx
    clear her hl2 hx
    go_enter Try.func39, Try.ntmps39
    go_wp2_with fail
    refine (refBytes_any m x _ (by omega) (by omega) HX.out).mono ?_
    rintro e w1 ⟨hb1, ⟨hbig, rfl⟩ | ⟨hsm, ⟨g, c, hg, rfl, hsg⟩⟩⟩
    · have e1 : pE m x l.length mx = 12 := by unfold pE; rw [if_neg h1, if_pos (by simpa using hbig)]
      have e2 : er = 12 := by rw [HE.out, e1]
      have e3 : l2 = l := by rw [HL.out, pL, e1, if_neg (by decide)]
      subst e2 e3
      clear hbig e1
      go_wp2
      go_ret
      exact ⟨rfl, .same (h.below hb1) hb1⟩
    · have h' := h.below hb1
      have HSM : Hid (x < 256 ^ m) := hsm
      have hp := parts_one' w1 (BS B v) g (8 - m) m c (byN m x) (byN_len m x) hsg (rbs_out h g hg) (rbs_out h _ hb1.size)
      have HC : Hid _ := joinR_total B v mx l (some ⟨w1.heap.size, 0, none⟩) 1 [⟨some ⟨g, 8 - m, none⟩, c, byN m x⟩] _ (h'.below ((Below.refl _ _).alloc (Nat.le_refl _) _)) hp hmx hl (by simp) (by intro p hp; simp at hp; subst hp; simp [byN_len]; omega)
      clear hsm hp hsg
      go_wp2_with fail
      refine Calls.mono HC.out ?_
      rintro e w2 ⟨rfl, v', hk, hq, hch⟩
      go_wp2
      go_ret
      have hfl : flat [⟨some ⟨g, 8 - m, none⟩, c, byN m x⟩] = byN m x := by simp [flat]
      refine ⟨?_, v', ?_, ?_, ?_⟩
      · have e : bE [⟨some ⟨g, 8 - m, none⟩, c, byN m x⟩] l.length mx = er := by rw [HE.out, bE, hfl, byN_len, pE_fit m x l.length mx h1 HSM.out]
        exact ret1 e
      · have : l2 = bL [⟨some ⟨g, 8 - m, none⟩, c, byN m x⟩] l mx := by
          rw [HL.out, pL, bL, hfl, byN_len, pE_fit m x l.length mx h1 HSM.out]
          by_cases hh : mx < l.length + m
          · simp [hh]
          · simp [hh]
        rw [this]; exact hk
      · intro q hq'
        rcases hq q hq' with h | h
        · exact .inl h
        · have := hb1.size; simp at h; exact .inr (by omega)
      · exact (Ch.ofBelow (hb1.alloc hb1.size _)).trans hch (fun _ _ s => s)
end Go.Proofs.Ytcgfdhmegagjdaa
