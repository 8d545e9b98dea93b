/-
  A word again and again; a list of parts of the call's own.
-/
import Derived.Test.YtfnmidaiabjpbaaSum5
import Derived.Test.YtfnmidaiabjpbaaSum4
namespace Go.Proofs.Ytfnmidaiabjpbaa
open Go.RowKit

theorem Try.infoBytes : (Try.prog.info? 25).map (fun i => (i.zero, i.size, i.bytes)) = some (some (.slice none 0 0), 1, 24) := by kernel_rfl

/-- a word of two bytes, k times -/
def rep (p q : Nat) : Nat → List Nat
  | 0 => []
  | k + 1 => rep p q k ++ [p, q]
theorem rep_len (p q k : Nat) : (rep p q k).length = 2 * k := by
  induction k with
  | zero => rfl
  | succ k ih => rw [rep, List.length_append, ih]; rfl
theorem rep_lt (p q k : Nat) (hp : p < 256) (hq : q < 256) : ∀ x ∈ rep p q k, x < 256 := by
  induction k with
  | zero => intro x hx; cases hx
  | succ k ih =>
    intro x hx
    simp only [rep, List.mem_append, List.mem_cons, List.not_mem_nil, or_false] at hx
    rcases hx with hx | rfl | rfl
    · exact ih x hx
    · exact hp
    · exact hq
theorem rep_wv (p q k : Nat) : S.wv false (rep p q k) = k * (256 * p + q) := by
  induction k with
  | zero => simp [rep, S.wv]
  | succ k ih =>
    have e : S.wv false [p, q] = 256 * p + q := by simp [S.wv]
    rw [rep, wv_even_append _ _ (by rw [rep_len]; omega), ih, e, Nat.add_mul, Nat.one_mul]
/-- .. zeros behind it -/
def mid (p q n k : Nat) : List Nat := rep p q k ++ List.replicate (2 * n - 2 * k) 0
theorem mid_len (p q n k : Nat) (h : k ≤ n) : (mid p q n k).length = 2 * n := by simp [mid, rep_len]; omega
theorem mid_zero (p q n : Nat) : mid p q n 0 = List.replicate (2 * n) 0 := by simp [mid, rep]
theorem mid_all (p q n : Nat) : mid p q n n = rep p q n := by simp [mid]
theorem mid_set (p q n k : Nat) (h : k < n) : ((mid p q n k).set (2 * k) p).set (2 * k + 1) q = mid p q n (k + 1) := by
  unfold mid
  rw [show 2 * n - 2 * k = (2 * n - 2 * (k + 1)) + 2 by omega, List.replicate_succ, List.replicate_succ]
  rw [List.set_append_right _ _ (by rw [rep_len]; omega), rep_len, Nat.sub_self]
  rw [List.set_append_right _ _ (by rw [rep_len]; omega), rep_len]
  rw [show 2 * k + 1 - 2 * k = 1 by omega]
  simp [rep]
theorem toI_set (l : List Nat) (i x : Nat) : ((toI l).map (Value.int .u8)).set i (.int .u8 (x : Int)) = (toI (l.set i x)).map (Value.int .u8) := by
  simp [toI, List.map_set]
theorem fix1_same (c a : Nat) (hc : c ≤ 65534) (ha : a ≤ 65535) : S.fix1 c a a = c := by
  unfold S.fix1
  have e : S.fold (65535 - c + (65535 - a) + a) = 65535 - c := by
    have : S.fold (65535 - c + (65535 - a) + a) = S.fold (65535 - c) := S.fold_eq _ _ (by omega) (by omega)
    rw [this, S.fold_small _ (by omega)]
  rw [e]
  omega
theorem fixB_same (c : Nat) (hc : c ≤ 65534) (l : List Nat) (h : ∀ x ∈ l, x < 256) : S.fixB c l l = c := by
  match l with
  | [] => rfl
  | [a] =>
    have := h a (by simp)
    simp only [S.fixB]
    exact fix1_same c _ hc (by omega)
  | a :: b :: l =>
    have h1 := h a (by simp)
    have h2 := h b (by simp)
    simp only [S.fixB]
    rw [fix1_same c _ hc (by omega)]
    exact fixB_same c hc l (fun x hx => h x (by simp [hx]))
theorem own_kind {w : World} {B : Nat} {e : TypeId} {v : Value} {n : Nat} {xs : List Value} (h : w.ownsRow B e 1 v n xs) : ∀ g, v.ownBlock = some g → ∃ c, w.heap[g]? = some (.cells c e (0, 0)) := by
  intro g hg
  rcases h.2 with ⟨rfl, _⟩ | ⟨g', cap, cur, rfl, _, hh, _⟩
  · simp [Value.ownBlock] at hg
  · simp [Value.ownBlock] at hg; subst hg; exact ⟨cur, hh⟩
/-- rows of unlike kinds lie apart -/
theorem own_apart {w : World} {B B' : Nat} {e e' : TypeId} {v v' : Value} {n n' : Nat} {xs xs' : List Value} (h : w.ownsRow B e 1 v n xs) (h' : w.ownsRow B' e' 1 v' n' xs') (hne : e ≠ e') : v.ownBlock = none ∨ v.ownBlock ≠ v'.ownBlock := by
  cases hv : v.ownBlock with
  | none => exact .inl rfl
  | some g =>
    refine .inr (fun hc => hne ?_)
    obtain ⟨c, hc1⟩ := own_kind h g hv
    obtain ⟨c', hc2⟩ := own_kind h' g hc.symm
    rw [hc1] at hc2
    simp at hc2
    exact hc2.2
/-- a list of parts of the call's own -/
theorem parts_own {w : World} {B : Nat} {e : TypeId} {a : Option Addr} {n c : Nat} {ps : List Part} (h : w.ownsRow B e 1 (.slice a n c) n (ps.map Part.val)) (hok : ∀ p ∈ ps, p.ok w) : Parts w a ps := by
  have hl : ps.length = n := by have := h.1; simpa using this
  refine ⟨?_, hok⟩
  rcases h.2 with ⟨hv, h0⟩ | ⟨g, cap, cur, hv, hg, hh, hnc, hcm, r⟩
  · exact .inl (List.eq_nil_of_length_eq_zero (by omega))
  · simp only [Value.slice.injEq, true_and] at hv
    obtain ⟨rfl, rfl⟩ := hv
    refine .inr ⟨g, 0, rfl, fun i hi => ?_⟩
    rw [Nat.zero_add, h.cellAt i (by omega)]
    simp [hi]
/-- a part of bytes of the call's own, by its place and length -/
def Piece (g cap : Nat) (l : List Nat) (p : Part) : Prop := ∃ off len, p = ⟨some ⟨g, off, none⟩, cap - off, (l.drop off).take len⟩ ∧ off + len ≤ l.length
theorem Piece.ok {g cap B n : Nat} {l : List Nat} {p : Part} {w : World} (h : Piece g cap l p) (ho : OwnB w B (.slice (some ⟨g, 0, none⟩) n cap) n l) (h256 : ∀ x ∈ l, x < 256) : p.ok w := by
  obtain ⟨off, len, rfl, hl⟩ := h
  obtain ⟨hs, h1, h2⟩ := owns_seg_at ho
  have hn := ho.len
  refine ⟨?_, fun x hx => h256 x (List.mem_of_mem_drop (List.mem_of_mem_take hx)), ?_, ?_⟩
  · have := hs.part off len (by rw [toI_len]; exact hl)
    simp only [Option.map_some, Addr.add_lit, Nat.zero_add] at this
    rw [toI_drop, toI_take] at this
    exact this
  · show ((l.drop off).take len).length ≤ cap - off
    simp; omega
  · show cap - off ≤ _
    omega
end Go.Proofs.Ytfnmidaiabjpbaa
