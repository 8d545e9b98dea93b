/-
  Layer 18, QueueEven in numbers: the pairs of classes behind a Pop.
-/
import Derived.Test.YtclkcpdghpaboaaQEt
import Derived.Test.YtclkcpdghpaboaaQFq
namespace Go.Proofs.Ytclkcpdghpaboaa

/-- each pair tells what its two classes were served in the stretch that lasts -/
def PP (l2 : List LI) (n : Nat) (ps : List (Int × Int)) (t : TN) : Prop := ps.length = n * n ∧ ∀ i j, i < n → j < n → Pi2 (q2 l2 i) (q2 l2 j) i j (ps.getD (i * n + j) (0, 0)).1 (ps.getD (i * n + j) (0, 0)).2 t
def PB (K : Int) (ps : List (Int × Int)) : Prop := ∀ x ∈ ps, (0 ≤ x.1 ∧ x.1 ≤ K) ∧ (0 ≤ x.2 ∧ x.2 ≤ K)
theorem PB.mono {K K' : Int} {ps : List (Int × Int)} (h : PB K ps) (hk : K ≤ K') : PB K' ps := fun x hx => by
  have := h x hx
  omega
theorem PB.zero (n : Nat) : PB 0 (List.replicate n ((0 : Int), (0 : Int))) := fun x hx => by
  rw [List.eq_of_mem_replicate hx]
  exact ⟨⟨Int.le_refl _, Int.le_refl _⟩, Int.le_refl _, Int.le_refl _⟩
theorem evP_zero {was is_ : List Bool} {n c i j : Nat} {size : Int} {ps : List (Int × Int)} (hj : j < n) (hf : (was.getD i false && (was.getD j false && (is_.getD i false && is_.getD j false))) = false) : evP was is_ n c size ps (i * n + j) = (0, 0) := by
  unfold evP
  rw [idx_div hj, idx_mod hj, hf]
  rfl
theorem evP_some {was is_ : List Bool} {n c i j : Nat} {size : Int} {ps : List (Int × Int)} (hj : j < n) (hf : (was.getD i false && (was.getD j false && (is_.getD i false && is_.getD j false))) = true) : evP was is_ n c size ps (i * n + j) = ((ps.getD (i * n + j) (0, 0)).1 + (if i = c then size else 0), (ps.getD (i * n + j) (0, 0)).2 + (if j = c then size else 0)) := by
  unfold evP
  rw [idx_div hj, idx_mod hj, hf, if_pos rfl]
theorem evL_at {was is_ : List Bool} {n c k : Nat} {size : Int} {ps : List (Int × Int)} (hk : k < ps.length) : (evL was is_ n c size ps).getD k (0, 0) = evP was is_ n c size ps k := by
  unfold evL
  rw [List.getD, List.getElem?_map, List.getElem?_range hk]
  rfl
theorem evL_len (was is_ : List Bool) (n c : Nat) (size : Int) (ps : List (Int × Int)) : (evL was is_ n c size ps).length = ps.length := by
  unfold evL
  rw [List.length_map, List.length_range]
theorem PB.at {K : Int} {ps : List (Int × Int)} (h : PB K ps) (h0 : 0 ≤ K) (k : Nat) : (0 ≤ (ps.getD k (0, 0)).1 ∧ (ps.getD k (0, 0)).1 ≤ K) ∧ (0 ≤ (ps.getD k (0, 0)).2 ∧ (ps.getD k (0, 0)).2 ≤ K) := by
  by_cases hk : k < ps.length
  · have e : ps.getD k (0, 0) = ps[k] := by simp [List.getD, hk]
    rw [e]
    exact h _ (List.getElem_mem hk)
  · have e : ps.getD k (0, 0) = (0, 0) := by simp [List.getD, List.getElem?_eq_none (Nat.le_of_not_lt hk)]
    rw [e]
    exact ⟨⟨Int.le_refl _, h0⟩, Int.le_refl _, h0⟩
theorem PB.ev {K : Int} {ps : List (Int × Int)} (h : PB K ps) (h0 : 0 ≤ K) (was is_ : List Bool) (n c : Nat) {size : Int} (hs : 0 ≤ size ∧ size ≤ 65535) (k : Nat) : (0 ≤ (evP was is_ n c size ps k).1 ∧ (evP was is_ n c size ps k).1 ≤ K + 65535) ∧ (0 ≤ (evP was is_ n c size ps k).2 ∧ (evP was is_ n c size ps k).2 ≤ K + 65535) := by
  have h1 := h.at h0 k
  unfold evP
  split
  · dsimp only
    split <;> split <;> omega
  · dsimp only
    omega
theorem PB.evL {K : Int} {ps : List (Int × Int)} (h : PB K ps) (h0 : 0 ≤ K) (was is_ : List Bool) (n c : Nat) {size : Int} (hs : 0 ≤ size ∧ size ≤ 65535) : PB (K + 65535) (evL was is_ n c size ps) := fun x hx => by
  unfold Go.Proofs.Ytclkcpdghpaboaa.evL at hx
  obtain ⟨k, _, rfl⟩ := List.mem_map.1 hx
  exact h.ev h0 was is_ n c hs k
theorem rdL_at {cs : List CL} {n i : Nat} (hi : i < n) : (rdL cs n).getD i false = (cAt cs i).rdy := by
  unfold rdL
  rw [List.getD, List.getElem?_map, List.getElem?_range hi]
  rfl
theorem PP.same {l2 : List LI} {n : Nat} {ps : List (Int × Int)} {t : TN} (h : PP l2 n ps t) : PP l2 n ps t := h
/-- the pairs behind a Pop -/
theorem PP.pop {l2 : List LI} {n : Nat} {ps : List (Int × Int)} {cs : List CL} {t : TN} (h : PP l2 n ps t) (hq : QOk cs t) (h2 : H2 cs t) (ha : anyR cs = true) (hl : cs.map CL.li = l2) (hn : cs.length = n) : PP l2 n (evL (rdL cs n) (rdL (popQ cs t) n) n (fin cs t).at' (hdS (cAt cs (fin cs t).at').L) ps) (popT cs t) ∧ H2 (popQ cs t) (popT cs t) := by
  have hrun := run_fin hq ha
  obtain ⟨hu, hr, hd, hg⟩ := hrun.end' hq
  have hat := hu.tn.at'
  have h2u := h2.run hrun hq
  have hQ : popQ cs t = popCs cs (fin cs t) := by unfold popQ; rw [if_pos ha]
  have hT : popT cs t = popD cs (fin cs t) := by unfold popT; rw [if_pos ha]
  have hX := popX hq (cs := cs) (t := t)
  rw [hQ, hT] at hX ⊢
  have hH : H2 (popCs cs (fin cs t)) (popD cs (fin cs t)) := h2u.pop hu hat
  refine ⟨⟨by rw [evL_len, h.1], fun i j hi hj => ?_⟩, hH⟩
  have hlen : (popCs cs (fin cs t)).length = n := by unfold popCs; rw [List.length_set, hn]
  have hli : ∀ k, (cAt (popCs cs (fin cs t)) k).li = (cAt cs k).li := fun k => by
    unfold popCs
    by_cases e : k = (fin cs t).at'
    · subst e; rw [cAt_set_same hat]; rfl
    · rw [cAt_set_ne e]
  have hqi : ∀ k, (cAt cs k).li.q = q2 l2 k := fun k => by rw [li_at hl]; rfl
  rw [evL_at (by rw [h.1]; exact idx_lt hi hj)]
  cases hf : ((rdL cs n).getD i false && ((rdL cs n).getD j false && ((rdL (popCs cs (fin cs t)) n).getD i false && (rdL (popCs cs (fin cs t)) n).getD j false))) with
  | false =>
    rw [evP_zero hj hf]
    exact Pi2.zero hX hH (by rw [hlen]; exact hi) (by rw [hlen]; exact hj) (by rw [hli, hqi]) (by rw [hli, hqi])
  | true =>
    rw [evP_some hj hf]
    rw [rdL_at hi, rdL_at hj, rdL_at hi, rdL_at hj] at hf
    simp only [Bool.and_eq_true] at hf
    obtain ⟨f1, f2, f3, f4⟩ := hf
    have hp := (h.2 i j hi hj).run hrun (by rw [hn]; exact hi) (by rw [hn]; exact hj) f1 f2 (hqi i) (hqi j) hq
    have tail : ∀ k, (cAt (popCs cs (fin cs t)) k).rdy = true → k = (fin cs t).at' → wtB (cAt cs (fin cs t).at').L.tail = true := fun k hk e => by
      subst e
      have h1 := hk
      unfold popCs at h1
      rw [cAt_set_same hat] at h1
      have h3 := rdy_ne h1
      have h4 : (cAt cs (fin cs t).at').L.tail ≠ [] := h3
      unfold wtB
      exact decide_eq_true (List.length_pos_iff.2 h4)
    have hp2 := hp.pop (cs := cs) (tail i f3) (tail j f4)
    have e1 : ∀ (k : Nat) (A z : Int), (if k = (fin cs t).at' then A + z else A) = A + (if k = (fin cs t).at' then z else 0) := fun k A z => by split <;> omega
    rw [e1, e1] at hp2
    exact hp2
/-- the bound that is asked of each pair -/
theorem PP.bound {l2 : List LI} {n : Nat} {ps : List (Int × Int)} {cs : List CL} {t : TN} {K : Int} (h : PP l2 n ps t) (hq : QOk cs t) (h2 : H2 cs t) (ha : anyR cs = true) (hl : cs.map CL.li = l2) (hn : cs.length = n) (hb : PB K ps) (h0 : 0 ≤ K) (hK : K + 65535 ≤ 1000000000000) (hlw : ∀ l ∈ l2, 0 ≤ l.q) :
    ∀ (i j : Nat) (x y : LI) (r : Int × Int), l2[i]? = some x → l2[j]? = some y → (rdL cs n).getD i false = true → (rdL cs n).getD j false = true → (rdL (popQ cs t) n).getD i false = true → (rdL (popQ cs t) n).getD j false = true → evP (rdL cs n) (rdL (popQ cs t) n) n (fin cs t).at' (hdS (cAt cs (fin cs t).at').L) ps (i * n + j) = r → (0 ≤ r.1 ∧ r.1 ≤ 1000000000000) ∧ (0 ≤ r.2 ∧ r.2 ≤ 1000000000000) ∧ r.1 * y.q - r.2 * x.q ≤ 2 * (x.q * y.q) + 65535 * (x.q + y.q) := by
  intro i j x y r hx hy _ _ _ _ hr
  obtain ⟨hp, hH⟩ := h.pop hq h2 ha hl hn
  have hrun := run_fin hq ha
  have hu := (hrun.end' hq).1
  have hhd := (hu.c hu.tn.at').hd
  have hl2 : l2.length = n := by rw [li_len hl, hn]
  have hi : i < n := by rw [← hl2]; exact (List.getElem?_eq_some_iff.1 hx).1
  have hj : j < n := by rw [← hl2]; exact (List.getElem?_eq_some_iff.1 hy).1
  have h1 := hp.2 i j hi hj
  rw [evL_at (by rw [h.1]; exact idx_lt hi hj), hr] at h1
  have h3 := hb.ev h0 (rdL cs n) (rdL (popQ cs t) n) n (fin cs t).at' hhd (i * n + j)
  rw [hr] at h3
  have qi : q2 l2 i = x.q := by unfold q2; rw [List.getD, hx]; rfl
  have qj : q2 l2 j = y.q := by unfold q2; rw [List.getD, hy]; rfl
  rw [qi, qj] at h1
  have hlen : (popQ cs t).length = n := by unfold popQ popCs; rw [if_pos ha, List.length_set, hn]
  have hli : (cAt (popQ cs t) j).li.q = y.q := by
    rw [← qj]
    unfold q2
    rw [← li_at hl]
    unfold popQ popCs
    rw [if_pos ha]
    by_cases e : j = (fin cs t).at'
    · subst e; rw [cAt_set_same hu.tn.at']; rfl
    · rw [cAt_set_ne e]
  refine ⟨by omega, by omega, ?_⟩
  exact h1.even (popX hq) hH (by rw [hlen]; exact hi) (by rw [hlen]; exact hj) hli (hlw x (List.mem_of_getElem? hx)) (hlw y (List.mem_of_getElem? hy))
theorem PP.zero {l2 : List LI} {n : Nat} {cs : List CL} {t : TN} (hq : QOk cs t) (h2 : H2 cs t) (hl : cs.map CL.li = l2) (hn : cs.length = n) : PP l2 n (List.replicate (n * n) ((0 : Int), (0 : Int))) t := by
  refine ⟨List.length_replicate, fun i j hi hj => ?_⟩
  have e : (List.replicate (n * n) ((0 : Int), (0 : Int))).getD (i * n + j) (0, 0) = (0, 0) := by
    rw [List.getD, List.getElem?_replicate]
    split <;> rfl
  rw [e]
  exact Pi2.zero hq h2 (by rw [hn]; exact hi) (by rw [hn]; exact hj) (by rw [li_at hl]; rfl) (by rw [li_at hl]; rfl)
theorem H2.first (l2 : List LI) (h : ∀ l ∈ l2, 0 ≤ l.q) : H2 (c0s l2) tz := fun i hi => by
  have h1 : 0 ≤ (cAt (c0s l2) i).li.q := by
    unfold c0s at hi ⊢
    rw [List.length_map] at hi
    rw [cAt_some (by rw [List.getElem?_map, List.getElem?_eq_getElem hi]; rfl)]
    exact h _ (List.getElem_mem hi)
  have h2 : tz.de i = 0 := rfl
  rw [h2]
  omega
end Go.Proofs.Ytclkcpdghpaboaa
