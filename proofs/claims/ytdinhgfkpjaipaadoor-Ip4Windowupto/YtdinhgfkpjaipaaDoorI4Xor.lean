/-
  Windows whose bytes are turned over: the lists behind it.
-/
import Derived.Test.YtdinhgfkpjaipaaDoorI4Mark
import Derived.Test.YtdinhgfkpjaipaaDoorI4Start2
namespace Go.Proofs.YtdinhgfkpjaipaaDoor
open Go.RowKit
open I4 (H4)

/-- bytes of a window turned over -/
def xr (l : List Nat) (p k c : Nat) : List Nat := (List.range l.length).map (fun i => if p ≤ i ∧ i < p + k then l.getD i 0 ^^^ c else l.getD i 0)
theorem xr_len (l : List Nat) (p k c : Nat) : (xr l p k c).length = l.length := by simp [xr]
theorem xr_get (l : List Nat) (p k c i : Nat) (h : i < l.length) : (xr l p k c).getD i 0 = if p ≤ i ∧ i < p + k then l.getD i 0 ^^^ c else l.getD i 0 := by
  unfold xr
  simp only [List.getD, List.getElem?_map, List.getElem?_range h, Option.map_some, Option.getD_some]
theorem ext_getD {l m : List Nat} (hl : l.length = m.length) (h : ∀ i, i < l.length → l.getD i 0 = m.getD i 0) : l = m := I4.getD_ext hl h
theorem xr_zero (l : List Nat) (p c : Nat) : xr l p 0 c = l := by
  refine ext_getD (xr_len _ _ _ _) (fun i hi => ?_)
  rw [xr_len] at hi
  rw [xr_get _ _ _ _ _ hi, if_neg (by omega)]
theorem xr_step (l : List Nat) (p k c : Nat) : (xr l p k c).set (p + k) (l.getD (p + k) 0 ^^^ c) = xr l p (k + 1) c := by
  refine ext_getD (by simp [xr_len]) (fun i hi => ?_)
  rw [List.length_set, xr_len] at hi
  rw [xr_get _ _ _ _ _ hi]
  by_cases e : i = p + k
  · subst e
    rw [if_pos (by omega)]
    simp [List.getD, xr_len, hi]
  · have : ((xr l p k c).set (p + k) (l.getD (p + k) 0 ^^^ c)).getD i 0 = (xr l p k c).getD i 0 := by
      simp only [List.getD, List.getElem?_set]
      rw [if_neg (fun h => e h.symm)]
    rw [this, xr_get _ _ _ _ _ hi]
    by_cases h1 : p ≤ i ∧ i < p + k
    · rw [if_pos h1, if_pos (by omega)]
    · rw [if_neg h1, if_neg (by omega)]
theorem xr_next (l : List Nat) (p k c : Nat) (h : p + k < l.length) : (xr l p k c).getD (p + k) 0 = l.getD (p + k) 0 := by rw [xr_get _ _ _ _ _ h, if_neg (by omega)]
theorem xr_back (l : List Nat) (p n c : Nat) : xr (xr l p n c) p n c = l := by
  refine ext_getD (by rw [xr_len, xr_len]) (fun i hi => ?_)
  rw [xr_len, xr_len] at hi
  rw [xr_get _ _ _ _ _ (by rw [xr_len]; exact hi), xr_get _ _ _ _ _ hi]
  by_cases h1 : p ≤ i ∧ i < p + n
  · rw [if_pos h1, if_pos h1, Nat.xor_assoc, Nat.xor_self, Nat.xor_zero]
  · rw [if_neg h1, if_neg h1]
theorem xr_256 (l : List Nat) (p k c : Nat) (h : ∀ x ∈ l, x < 256) (hc : c < 256) : ∀ x ∈ xr l p k c, x < 256 := by
  intro x hx
  simp only [xr, List.mem_map, List.mem_range] at hx
  obtain ⟨i, hi, rfl⟩ := hx
  have h1 := I4.getD_lt l h i
  split
  · exact Nat.xor_lt_two_pow (n := 8) h1 hc
  · exact h1
theorem xr_app (a b : List Nat) (p k c : Nat) (h : p + k ≤ a.length) : xr (a ++ b) p k c = xr a p k c ++ b := by
  refine ext_getD (by simp [xr_len]) (fun i hi => ?_)
  rw [xr_len] at hi
  rw [xr_get _ _ _ _ _ hi]
  by_cases h1 : i < a.length
  · rw [I4.getD_app1 (xr a p k c) b i (by rw [xr_len]; exact h1), xr_get _ _ _ _ _ h1, I4.getD_app1 a b i h1]
  · rw [if_neg (by omega)]
    obtain ⟨j, rfl⟩ : ∃ j, i = a.length + j := ⟨i - a.length, by omega⟩
    rw [I4.getD_app2]
    have := I4.getD_app2 (xr a p k c) b j
    rw [xr_len] at this
    rw [this]
theorem xr_take (l : List Nat) (p k c n : Nat) (h : n ≤ p) : (xr l p k c).take n = l.take n := by
  refine ext_getD (by simp [xr_len]) (fun i hi => ?_)
  rw [List.length_take, xr_len] at hi
  rw [I4.getD_take _ _ _ (by omega), I4.getD_take _ _ _ (by omega), xr_get _ _ _ _ _ (by omega), if_neg (by omega)]
theorem xr_low (l : List Nat) (p k c i : Nat) (h : i < p) : (xr l p k c).getD i 0 = l.getD i 0 := by
  by_cases hi : i < l.length
  · rw [xr_get _ _ _ _ _ hi, if_neg (by omega)]
  · simp [List.getD, List.getElem?_eq_none (show l.length ≤ i by omega), List.getElem?_eq_none (show (xr l p k c).length ≤ i by rw [xr_len]; omega)]
theorem taken_xr {b : List Nat} (t : I4.Taken b) (k c : Nat) : I4.Taken (xr b (I4.hdL b) k c) ∧ I4.hdL (xr b (I4.hdL b) k c) = I4.hdL b ∧ I4.tlL (xr b (I4.hdL b) k c) = I4.tlL b := by
  have h20 := t.hd
  obtain ⟨D, hD⟩ : ∃ D, D = I4.hdL b := ⟨_, rfl⟩
  rw [← hD] at h20 ⊢
  have e0 : ∀ i, i < 20 → (xr b D k c).getD i 0 = b.getD i 0 := fun i hi => xr_low b D k c i (by omega)
  have hh : I4.hdL (xr b D k c) = I4.hdL b := by unfold I4.hdL; rw [e0 0 (by omega)]
  have ht : I4.tlL (xr b D k c) = I4.tlL b := by unfold I4.tlL; rw [e0 2 (by omega), e0 3 (by omega)]
  have ho : I4.optB (xr b D k c) = I4.optB b := by
    unfold I4.optB
    rw [hh, ← hD]
    have h1 := congrArg (List.drop 20) (xr_take b D k c D (Nat.le_refl _))
    rw [List.drop_take, List.drop_take] at h1
    exact h1
  have hos : I4.opsB (xr b D k c) = I4.opsB b := by unfold I4.opsB; rw [ho]
  refine ⟨⟨by rw [xr_len]; exact t.le, by rw [e0 0 (by omega)]; exact t.ver, by rw [hh]; exact t.hd, by rw [hh, ht]; exact t.hd2, by rw [ht, xr_len]; exact t.tl, ?_, by rw [ho, hos]; exact t.opt, ?_⟩, by rw [hh, hD], ht⟩
  · rw [hh, ← hD, xr_take _ _ _ _ _ (Nat.le_refl _), hD]; exact t.good
  · have e1 : (I4.pH (xr b D k c)).mf = (I4.pH b).mf := by unfold I4.pH; simp only [e0 6 (by omega)]
    have e2 : (I4.pH (xr b D k c)).off = (I4.pH b).off := by unfold I4.pH; simp only [e0 6 (by omega), e0 7 (by omega)]
    rw [e1, e2, hh, ht]; exact t.frag
theorem xor_ne : ∀ x, x < 256 → x ≠ x ^^^ 255 := by decide +kernel
theorem xor_lt (x c : Nat) (hx : x < 256) (hc : c < 256) : x ^^^ c < 256 := Nat.xor_lt_two_pow (n := 8) hx hc
/-- how many of the first k lie in the window -/
def cntW (p D k : Nat) : Nat := min k (p + D) - min k p
theorem three_new (w : World) (x y z : Value) (t : TypeId) : ∀ j u, ([x, y, z] : List Value)[j]? = some u → (w.alloc (.cells #[x, y, z] t)).cell? ((⟨w.heap.size, 0, none⟩ : Addr).add j) = some u := by
  intro j u hj
  rw [Addr.add_lit, Nat.zero_add, World.cell?_alloc_at _ _ _ _ rfl]
  match j, hj with
  | 0, hj => simpa using hj
  | 1, hj => simpa using hj
  | 2, hj => simpa using hj
  | j + 3, hj => simp at hj
theorem read_opt {w : World} {B : Nat} {la a : Option Addr} {K lc : Nat} {ops : List I4.Op4} {os : List OpV} (ho : w.ownsRow B 43 2 (.slice la K lc) K (opsC a ops)) (hat : OptsAt w la os) (hl : os.length = K) (i : Nat) (o : OpV) (hi : os[i]? = some o) : ∃ q, ops[i]? = some q ∧ o.a = cutA a q.p q.n ∧ o.d.length = q.n ∧ o.c = q.n := by
  have hiK : i < K := by have := (List.getElem?_eq_some_iff.1 hi).1; omega
  obtain ⟨b, off, hla, _, _, _, c2⟩ := hat.at i o hi
  rcases ho.2 with ⟨_, h0⟩ | ⟨g, cap, cur, e, _⟩
  · omega
  · simp only [Value.slice.injEq, true_and] at e
    obtain ⟨rfl, rfl⟩ := e
    have e1 := Option.some.inj hla
    simp only [Addr.mk.injEq, and_true] at e1
    obtain ⟨rfl, rfl⟩ := e1
    have d2 := ho.cellAt (i * 2 + 1) (by omega)
    rw [Nat.zero_add] at c2
    rw [c2] at d2
    have hlen : i < ops.length := by
      have := (List.getElem?_eq_some_iff.1 d2.symm).1
      rw [opsC_len] at this
      omega
    obtain ⟨q, hq⟩ : ∃ p, ops[i]? = some p := ⟨_, List.getElem?_eq_getElem hlen⟩
    have := (opsC_get a ops i q hq).2
    rw [← d2] at this
    simp only [Option.some.injEq, Value.slice.injEq] at this
    exact ⟨q, hq, this.1, this.2.1, this.2.2⟩
end Go.Proofs.YtdinhgfkpjaipaaDoor
