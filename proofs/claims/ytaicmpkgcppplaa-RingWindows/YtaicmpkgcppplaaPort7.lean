/-
  The port: Arrive.
-/
import Derived.Test.YtaicmpkgcppplaaPort6
namespace Go.Proofs.Ytaicmpkgcppplaa
open Go.RowKit

theorem Try.sizeByte : (Try.prog.info? 5).map (·.size) = some 1 := by kernel_rfl
theorem form0 {w : World} {g B n : Nat} {e : TypeId} {xs : List Value} (h : w.ownsRow B e 1 (.slice (some ⟨g, 0, none⟩) n n) n xs) : w.heap[g]? = some (.cells xs.toArray e (0, 0)) ∧ B ≤ g ∧ n ≤ maxLen := by
  rcases h.2 with ⟨h1, _⟩ | ⟨g', cap, cur, h1, hb, hh, hn, hc, hs, ht⟩
  · simp at h1
  · simp only [Value.slice.injEq, Option.some.injEq, Addr.mk.injEq, and_true, true_and] at h1
    obtain ⟨rfl, rfl⟩ := h1
    rw [List.take_of_length_le (by simp; omega)] at ht
    exact ⟨by rw [hh, ← ht], hb, hc⟩
theorem to_own {w : World} {g B n : Nat} {e : TypeId} {xs : List Value} (h : w.heap[g]? = some (.cells xs.toArray e (0, 0))) (hb : B ≤ g) (hn : xs.length = n) (hm : n ≤ maxLen) : w.ownsRow B e 1 (.slice (some ⟨g, 0, none⟩) n n) n xs :=
  ⟨by simpa using hn, .inr ⟨g, n, xs.toArray, rfl, hb, h, Nat.le_refl _, hm, by simpa using hn, by simp; rw [← hn]; simp⟩⟩
/-- copy into a block that stands already -/
theorem wpList_copy_ch {P : Program} {w : World} {ops : Array Oper} {rest : List Oper} {o : Oper} {a : Act} {Q : Exit → Act → World → Prop} (hgd : o.guard = none) (d s : Operand) (dT sT : TypeId)
    (ho : o.op = .call { callee := .builtin .copy, args := #[d, s], argTypes := #[dT, sT] }) (elem : TypeId) (hu : P.underlying dT = some (.slice elem)) (hsz : (P.info? elem).map (·.size) = some 1)
    (dp sp : Option Addr) (dLen dCap sLen sCap : Nat) (hd : a.eval d = .slice dp dLen dCap) (hs : a.eval s = .slice sp sLen sCap)
    (g off : Nat) (cur : List Value) (t : TypeId) (hg : w.heap[g]? = some (.cells cur.toArray t (0, 0))) (cs : List Value) (hn : cs.length = Nat.min sLen dLen)
    (hpos : 0 < cs.length → dp = some ⟨g, off, none⟩ ∧ ∃ ad, sp = some ad ∧ ∀ j v, cs[j]? = some v → w.cell? (ad.add j) = some v)
    (hfit : off + cs.length ≤ cur.length) (h1 : ∀ v ∈ cs, v.oneCell' = true)
    (h : ∀ w', Hid (w'.heap[g]? = some (.cells (splice cur off cs).toArray t (0, 0))) → Ch (fun q => q = g) w w' → wpList P ops Q rest (a.put o.dst (goInt cs.length)) w') :
    wpList P ops Q (o :: rest) a w := by
  by_cases h0 : cs.length = 0
  · obtain rfl : cs = [] := List.eq_nil_of_length_eq_zero h0
    refine wpList_copy_nothing hgd d s dT sT ho elem hu hsz dp sp dLen dCap sLen sCap hd hs (by simpa using hn.symm) ?_
    exact h w (show _ = _ by simpa [splice] using hg) (Ch.refl _ _)
  · obtain ⟨rfl, ad, rfl, hsrc⟩ := hpos (by omega)
    refine wpList_copy_own hgd d s dT sT ho elem hu hsz g off dLen dCap ad sLen sCap hd hs cur.toArray t hg cs hn hsrc (by simpa using hfit) h1 ?_
    exact h _ (show _ = _ by simpa [splice] using setRow_heap w g _ _ t _ hg) ⟨rfl, rfl, rfl, by simp [World.setRow], fun k _ hk => setRow_other w g k _ hk⟩
/-- a row of bytes that came in, as values to be copied -/
theorem seg_cells {w : World} {a : Option Addr} {l : List Nat} (h : Seg .u8 w a (toI l)) (h0 : 0 < ((toI l).map (Value.int .u8)).length) : ∃ ad, a = some ad ∧ ∀ j v, ((toI l).map (Value.int .u8))[j]? = some v → w.cell? (ad.add j) = some v := by
  rcases h with hnil | ⟨b, off, rfl, hc⟩
  · rw [hnil] at h0; simp at h0
  · refine ⟨_, rfl, fun j v hj => ?_⟩
    have hj' : j < (toI l).length := by simpa using (List.getElem?_eq_some_iff.1 hj).1
    rw [Addr.add_lit, hc j hj']
    simp [List.getElem?_eq_getElem hj'] at hj
    rw [← hj]
    simp [List.getD, hj']
/-- what Arrive answers -/
def aE (s : PS) (n : Nat) : Int := if 65535 < n then 2 else if s.size < n then 30 else if s.filled = s.rx.length then 31 else 0
set_option maxRecDepth 100000 in
set_option maxHeartbeats 800000 in
theorem Arrive_no (w : World) (P gb gf gr gt : Nat) (s : PS) (h : PortAt w P gb gf gr gt s) (a : Option Addr) (n c : Nat) (he : aE s n ≠ 0) :
    Calls Try.prog 12 #[.pointer (some ⟨P, 0, none⟩), .slice a n c] w fun e w' => e = .returned (.int .i64 (aE s n)) ∧ Below w.heap.size w w' := by
  have hS := h.cS
  have hF := h.cF
  obtain ⟨f, S, l⟩ := h.lr
  have hR := l.c2
  by_cases h1 : 65535 < n
  · have e : aE s n = 2 := if_pos h1
    rw [e]
    have hd : decide ((65535 : Int) < (n : Int)) = true := decide_eq_true (by omega)
    clear e he h l
    go_enter Try.func12, Try.ntmps12
    go_wp2
    go_ret
    exact ⟨rfl, Below.refl _ _⟩
  · by_cases h2 : s.size < n
    · have e : aE s n = 30 := by unfold aE; rw [if_neg h1, if_pos h2]
      rw [e]
      clear e he h l
      go_enter Try.func12, Try.ntmps12
      go_wp2
      try go_region
      all_goals
        go_wp2
        go_ret
        exact ⟨rfl, by first | exact Below.refl _ _ | exact (Below.refl _ _).drew⟩
    · have e : aE s n = if s.filled = s.rx.length then 31 else 0 := by unfold aE; rw [if_neg h1, if_neg h2]
      have ht : s.filled = s.rx.length := by
        by_cases q : s.filled = s.rx.length
        · exact q
        · exact absurd (e.trans (if_neg q)) he
      rw [e, if_pos ht]
      rw [← ht] at hR
      obtain ⟨x, hx⟩ : ∃ x, x = s.filled := ⟨_, rfl⟩
      rw [← hx] at hR hF
      clear e he h l ht hx
      go_enter Try.func12, Try.ntmps12
      go_wp2
      try go_region
      all_goals
        go_wp2
        try go_region
      all_goals
        go_wp2
        go_ret
        exact ⟨rfl, by first | exact Below.refl _ _ | exact (Below.refl _ _).drew | exact (Below.refl _ _).drew.drew⟩
end Go.Proofs.Ytaicmpkgcppplaa
