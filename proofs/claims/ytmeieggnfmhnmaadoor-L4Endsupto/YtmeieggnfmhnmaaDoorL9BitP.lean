/-
  One bit turned over in what was written: what UDP and TCP read of it, in numbers; SameUdp of two values that differ.
-/
import Derived.Test.YtmeieggnfmhnmaaDoorL9Bit
namespace Go.Proofs.YtmeieggnfmhnmaaDoor
open Go.RowKit
open L4 (U9 T9)

theorem getD_set2 (l : List Nat) (j y i : Nat) (hj : j < l.length) : (l.set j y).getD i 0 = if i = j then y else l.getD i 0 := by
  by_cases h : i = j
  · subst h
    simp [List.getD, hj]
  · rw [if_neg h]
    simp [List.getD, List.getElem?_set_ne (Ne.symm h)]
theorem append_set (p b : List Nat) (j y : Nat) : p ++ b.set j y = (p ++ b).set (p.length + j) y := by
  rw [List.set_append_right _ _ (by omega)]
  congr 1
  congr 1
  omega
theorem xor_ne2 (x s : Nat) (hx : x < 256) (hs : s < 8) : x ^^^ 2 ^ s ≠ x := by
  have := xor_bit x hx s hs
  omega
theorem flip2 (p b : List Nat) (j s : Nat) (hj : j < b.length) (h256 : ∀ z ∈ b, z < 256) (hs : s < 8) (h : S.fold (S.wv false (p ++ b)) = 65535) : S.fold (S.wv false (p ++ b.set j (b.getD j 0 ^^^ 2 ^ s))) ≠ 65535 := by
  rw [append_set]
  have hl : p.length + j < (p ++ b).length := by rw [List.length_append]; omega
  have e : b.getD j 0 = (p ++ b)[p.length + j] := by
    rw [List.getElem_append_right (by omega)]
    simp [List.getD, hj]
  exact flip_bad (p ++ b) (p.length + j) (b.getD j 0) s hl e (I4.getD_lt b h256 j) hs h
theorem udp_bit (V : Int) (u : U9) (P : Nat → List Nat) (hP : (P (8 + u.d.length)).length % 2 = 0) (hc : L4.uChk V u = 0) (hns : u.ns = false) (h256 : ∀ z ∈ L4.uSer u (P (8 + u.d.length)), z < 256) (j s : Nat) (hj : j < 8 + u.d.length) (hs : s < 8) (b : List Nat)
    (hb : b = (L4.uSer u (P (8 + u.d.length))).set j ((L4.uSer u (P (8 + u.d.length))).getD j 0 ^^^ 2 ^ s)) (h : L4.uPE V true (P (L4.uN b)) b = 0) : L4.uP b ≠ u ∧ (j ≠ 4 → j ≠ 5 → b.getD 6 0 = 0 ∧ b.getD 7 0 = 0) := by
  obtain ⟨B, hB⟩ : ∃ B, B = L4.uSer u (P (8 + u.d.length)) := ⟨_, rfl⟩
  have hBl : B.length = 8 + u.d.length := by rw [hB, L4.uSer_len]
  have hBN : L4.uN B = 8 + u.d.length := by rw [hB, L4.uN_ser]
  have hgood : S.fold (S.wv false (P (8 + u.d.length) ++ B)) = 65535 := by rw [hB]; exact L4.uSer_good u _ hP hns
  rw [← hB] at hb h256
  have hx2 : B.getD j 0 < 256 := I4.getD_lt B h256 j
  have hy2 : B.getD j 0 ^^^ 2 ^ s < 256 := (xor_bit _ hx2 s hs).2.1
  have hne : B.getD j 0 ^^^ 2 ^ s ≠ B.getD j 0 := xor_ne2 _ s hx2 hs
  have hb256 : ∀ z ∈ b, z < 256 := by rw [hb]; exact set_256 h256 hy2
  have hg : ∀ i, b.getD i 0 = if i = j then B.getD j 0 ^^^ 2 ^ s else B.getD i 0 := fun i => by rw [hb]; exact getD_set2 B j _ i (by omega)
  have hz := L4.uPE_zero h
  have hck := L4.uP_chk (L4.uChk_zero hc).1 hb256 h
  by_cases hl : j = 4 ∨ j = 5
  · refine ⟨fun e => ?_, fun h4 h5 => absurd hl (by omega)⟩
    rw [e] at hck
    have h1 := hck.2
    have h4 := hg 4
    have h5 := hg 5
    unfold L4.uN at h1 hBN
    rcases hl with rfl | rfl
    · rw [if_pos rfl] at h4
      rw [if_neg (by decide)] at h5
      omega
    · rw [if_neg (by decide)] at h4
      rw [if_pos rfl] at h5
      omega
  · have h4 : b.getD 4 0 = B.getD 4 0 := by rw [hg 4, if_neg (by omega)]
    have h5 : b.getD 5 0 = B.getD 5 0 := by rw [hg 5, if_neg (by omega)]
    have hN : L4.uN b = 8 + u.d.length := by unfold L4.uN at hBN ⊢; rw [h4, h5]; exact hBN
    have hS : L4.uS b = 0 := by
      refine Classical.byContradiction fun hS => ?_
      have hf := hz.2.2.2.2.2 hS
      rw [hN, List.take_of_length_le (by rw [hb, List.length_set]; omega), hb] at hf
      exact flip2 _ B j s (by omega) h256 hs hgood hf
    refine ⟨fun e => ?_, fun _ _ => ?_⟩
    · have := congrArg U9.ns e
      simp only [L4.uP, hS, hns] at this
      cases this
    · unfold L4.uS at hS
      omega
theorem tcp_bit (t : T9) (p : List Nat) (hp : p.length % 2 = 0) (h256 : ∀ z ∈ L4.tSer t p, z < 256) (j s : Nat) (hj : j < (L4.tSer t p).length) (hs : s < 8) : L4.tPE true p ((L4.tSer t p).set j ((L4.tSer t p).getD j 0 ^^^ 2 ^ s)) ≠ 0 := by
  intro h
  have hz := (L4.tPE_zero h).2.2.2.2.1
  exact flip2 _ _ j s hj h256 hs (L4.tSer_good t p hp) hz
set_option maxHeartbeats 800000 in
set_option maxRecDepth 100000 in
theorem sameU_ne (u v : U9) (a b : Option Addr) (n m ca cb : Nat) (w : World) (ha : DOk w u.d a n ca) (hb : DOk w v.d b m cb) (hne : v ≠ u) :
    Calls Tryd.prog 14 #[.agg (uC u a n ca), .agg (uC v b m cb)] w fun e w' => e = .returned (.bool false) ∧ Below w.heap.size w w' := by
  have bel : Below w.heap.size w ((w.alloc (.cells (uC u a n ca) 28)).alloc (.cells (uC v b m cb) 28)) := ((Below.refl _ _).alloc (Nat.le_refl _) _).alloc (by simp) _
  have QA : Hid _ := alike_any a b n m ca cb u.d v.d _ ha.dl hb.dl (ha.seg.old bel) (hb.seg.old bel) ha.d256 hb.d256
  clear ha hb
  obtain ⟨sp, dp, ns, d⟩ := u
  obtain ⟨sp', dp', ns', d'⟩ := v
  unfold uC at QA bel ⊢
  simp only at QA bel ⊢
  by_cases h1 : sp = sp'
  case neg =>
    have b1 : (sp == sp') = false := by rw [beq_eq_false_iff_ne]; exact h1
    clear h1 hne QA
    go_enter Tryd.func14, Tryd.ntmps14
    go_wp2
    go_ret
    exact ⟨rfl, bel⟩
  subst h1
  by_cases h2 : dp = dp'
  case neg =>
    have b1 : (dp == dp') = false := by rw [beq_eq_false_iff_ne]; exact h2
    clear h2 hne QA
    go_enter Tryd.func14, Tryd.ntmps14
    go_wp2
    go_ret
    exact ⟨rfl, bel⟩
  subst h2
  by_cases h3 : ns = ns'
  case neg =>
    have b1 : (ns == ns') = false := by rw [beq_eq_false_iff_ne]; exact h3
    clear h3 hne QA
    go_enter Tryd.func14, Tryd.ntmps14
    go_wp2
    go_ret
    exact ⟨rfl, bel⟩
  subst h3
  have h4 : d ≠ d' := fun e => hne (by rw [e])
  rw [decide_eq_false h4] at QA
  have n2 : (ns == ns) = true := by simp
  clear hne h4
  go_enter Tryd.func14, Tryd.ntmps14
  go_wp2_with fail
  refine Calls.mono QA.out ?_
  rintro e w1 ⟨rfl, rfl⟩
  go_wp2
  go_ret
  exact ⟨rfl, bel⟩
end Go.Proofs.YtmeieggnfmhnmaaDoor
