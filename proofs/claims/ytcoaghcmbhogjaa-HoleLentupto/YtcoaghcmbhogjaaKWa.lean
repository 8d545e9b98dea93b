/-
  WSpec WMem WRef WOps WPutP WPut0 WPut WGaps WPair WMade, one behind the other.
-/
import Derived.Test.YtcoaghcmbhogjaaHSpec
import Derived.Test.YtcoaghcmbhogjaaHOps
import Derived.Test.YtcoaghcmbhogjaaHBytes
import Derived.Test.YtcoaghcmbhogjaaHFstP
import Derived.Test.YtcoaghcmbhogjaaHNew
import Derived.Test.YtcoaghcmbhogjaaHFsQ
import Derived.Test.YtcoaghcmbhogjaaHFill
namespace Go.Proofs.Ytcoaghcmbhogjaa
namespace H11

def inB (gs : List (Nat × Nat)) (i : Nat) : Bool := gs.any (fun g => decide (g.1 ≤ i ∧ i < g.2))
theorem inB_iff {gs : List (Nat × Nat)} {i : Nat} : inB gs i = true ↔ inG gs i := by
  unfold inB inG
  rw [List.any_eq_true]
  simp
theorem inB_not {gs : List (Nat × Nat)} {i : Nat} : inB gs i = false ↔ ¬ inG gs i := by
  rw [← inB_iff]; simp
theorem inB_cons (g : Nat × Nat) (r : List (Nat × Nat)) (i : Nat) : inB (g :: r) i = (decide (g.1 ≤ i ∧ i < g.2) || inB r i) := rfl
theorem inB_eq {gs gs' : List (Nat × Nat)} {i j : Nat} (h : inG gs i ↔ inG gs' j) : inB gs i = inB gs' j := by
  cases h1 : inB gs i with
  | true => exact (inB_iff.2 (h.1 (inB_iff.1 h1))).symm
  | false => exact (inB_not.2 (fun q => inB_not.1 h1 (h.2 q))).symm

/-- how many of the first k are so -/
def cnt (f : Nat → Bool) : Nat → Nat
  | 0 => 0
  | k + 1 => cnt f k + (if f k = true then 1 else 0)
theorem cnt_le (f : Nat → Bool) : ∀ k, cnt f k ≤ k
  | 0 => Nat.le_refl _
  | k + 1 => by have := cnt_le f k; unfold cnt; split <;> omega
theorem cnt_not (f : Nat → Bool) : ∀ k, cnt (fun i => !f i) k + cnt f k = k
  | 0 => rfl
  | k + 1 => by
    have := cnt_not f k
    unfold cnt
    cases h : f k <;> simp <;> omega
theorem cnt_all {f : Nat → Bool} {a : Nat} : ∀ {k : Nat}, a ≤ k → (∀ i, a ≤ i → i < k → f i = true) → cnt f k = cnt f a + (k - a)
  | k, h, hf => by
    by_cases e : a = k
    · subst e; omega
    · obtain ⟨j, rfl⟩ : ∃ j, k = j + 1 := ⟨k - 1, by omega⟩
      have := cnt_all (f := f) (a := a) (k := j) (by omega) (fun i h1 h2 => hf i h1 (by omega))
      show cnt f j + (if f j = true then 1 else 0) = _
      rw [if_pos (hf j (by omega) (by omega)), this]
      omega

theorem fN_zero {o e hi : Nat} {gs : List (Nat × Nat)} {lo : Nat} (h : Ris lo gs hi) (hoe : o ≤ e) (h2 : e ≤ max lo o) : fN o e gs = 0 := by
  have := fN_le hoe h
  omega
theorem fN_next {o e hi : Nat} (hoe : o ≤ e) : ∀ {gs : List (Nat × Nat)} {lo : Nat}, Ris lo gs hi → fN o (e + 1) gs = fN o e gs + (if inB gs e = true then 1 else 0)
  | [], _, _ => by simp [fN, inB]
  | g :: r, lo, ⟨h1, h2, h3, h4⟩ => by
    have ih := fN_next hoe h4
    have hr : inB r e = true → g.2 + 1 ≤ e := fun q => (h4.out (inB_iff.1 q)).1
    unfold fN
    rw [inB_cons]
    by_cases a1 : g.2 ≤ o
    · rw [if_pos a1, if_pos a1, ih, decide_eq_false (by omega), Bool.false_or]
    · rw [if_neg a1, if_neg a1]
      by_cases a2 : e + 1 ≤ g.1
      · have hb : inB r e = false := by cases q : inB r e with | false => rfl | true => have := hr q; omega
        rw [if_pos a2, if_pos (by omega), hb, decide_eq_false (by omega)]
        simp
      · rw [if_neg a2]
        by_cases a3 : e ≤ g.1
        · rw [if_pos a3, fN_zero h4 (by omega) (by omega), decide_eq_true (by omega), Bool.true_or, if_pos rfl]
          omega
        · rw [if_neg a3]
          by_cases a4 : e < g.2
          · rw [fN_zero h4 (by omega) (by omega), fN_zero h4 (by omega) (by omega), decide_eq_true (by omega), Bool.true_or, if_pos rfl]
            omega
          · rw [ih, decide_eq_false (by omega), Bool.false_or]
            omega
theorem fN_cnt {o hi lo : Nat} {gs : List (Nat × Nat)} (h : Ris lo gs hi) : ∀ k, fN o (o + k) gs = cnt (fun i => inB gs (o + i)) k
  | 0 => fN_zero h (by omega) (by omega)
  | k + 1 => by
    rw [← Nat.add_assoc, fN_next (by omega) h, fN_cnt h k]
    rfl
theorem fN_sm {hi : Nat} : ∀ {gs : List (Nat × Nat)} {lo : Nat}, Ris lo gs hi → fN 0 hi gs = sm gs
  | [], _, _ => rfl
  | g :: r, lo, ⟨h1, h2, h3, h4⟩ => by
    unfold fN sm
    rw [if_neg (by omega), if_neg (by omega), fN_sm h4]
    omega
/-- Held, counted place by place -/
theorem held_cnt {s : HS} (h : Inv s) : cnt (fun i => !inB s.gp i) s.bs.length = s.bd - sm s.gp ∧ sm s.gp ≤ s.bd := by
  have h1 := fN_cnt (o := 0) h.ris s.bd
  rw [Nat.zero_add, fN_sm h.ris] at h1
  have e : (fun i => inB s.gp (0 + i)) = fun i => inB s.gp i := by funext i; rw [Nat.zero_add]
  rw [e] at h1
  have h2 := cnt_all (f := fun i => inB s.gp i) h.bl (fun i a b => inB_iff.2 (h.hd i a b))
  have h3 := cnt_not (fun i => inB s.gp i) s.bs.length
  have h4 := h.bl
  have h5 := cnt_le (fun i => inB s.gp i) s.bd
  omega

/-- the holes as far as they are seen from the first i places -/
def gU (gs : List (Nat × Nat)) (i : Nat) : List (Nat × Nat) := (gs.filter (fun g => decide (g.1 < i))).map (fun g => (g.1, min g.2 i))
theorem gU_none {hi i : Nat} : ∀ {gs : List (Nat × Nat)} {lo : Nat}, Ris lo gs hi → i ≤ lo → gU gs i = []
  | [], _, _, _ => rfl
  | g :: r, lo, ⟨h1, h2, h3, h4⟩, h => by
    have := gU_none h4 (i := i) (by omega)
    unfold gU at this ⊢
    rw [List.filter_cons_of_neg (by simp; omega)]
    exact this
theorem gU_cons {g : Nat × Nat} {r : List (Nat × Nat)} {i : Nat} (h : g.1 < i) : gU (g :: r) i = (g.1, min g.2 i) :: gU r i := by
  unfold gU
  rw [List.filter_cons_of_pos (by simpa using h)]
  rfl
theorem gU_skip {g : Nat × Nat} {r : List (Nat × Nat)} {i : Nat} (h : ¬ g.1 < i) : gU (g :: r) i = gU r i := by
  unfold gU
  rw [List.filter_cons_of_neg (by simpa using h)]
theorem gU_zero (gs : List (Nat × Nat)) : gU gs 0 = [] := by
  unfold gU
  rw [List.filter_eq_nil_iff.2 (by simp)]
  rfl
theorem gU_all {hi : Nat} : ∀ {gs : List (Nat × Nat)} {lo : Nat}, Ris lo gs hi → gU gs hi = gs
  | [], _, _ => rfl
  | g :: r, lo, ⟨h1, h2, h3, h4⟩ => by
    rw [gU_cons (by omega), gU_all h4, Nat.min_eq_left h3]
theorem inB_low {hi i : Nat} {gs : List (Nat × Nat)} {lo : Nat} (h : Ris lo gs hi) (hl : i < lo) : inB gs i = false := by
  cases q : inB gs i with
  | false => rfl
  | true => have := (h.out (inB_iff.1 q)).1; omega
theorem gU_held {hi i : Nat} : ∀ {gs : List (Nat × Nat)} {lo : Nat}, Ris lo gs hi → inB gs i = false → gU gs (i + 1) = gU gs i
  | [], _, _, _ => rfl
  | g :: r, lo, ⟨h1, h2, h3, h4⟩, h => by
    rw [inB_cons, Bool.or_eq_false_iff] at h
    have h5 := of_decide_eq_false h.1
    have ih := gU_held h4 h.2
    by_cases a : g.1 < i
    · rw [gU_cons a, gU_cons (by omega), ih, Nat.min_eq_left (by omega), Nat.min_eq_left (by omega)]
    · rw [gU_skip a, gU_skip (by omega), ih]
theorem gU_new {hi i : Nat} : ∀ {gs : List (Nat × Nat)} {lo : Nat}, Ris lo gs hi → inB gs i = true → (i = 0 ∨ inB gs (i - 1) = false) → gU gs (i + 1) = gU gs i ++ [(i, i + 1)]
  | [], _, _, h, _ => by simp [inB] at h
  | g :: r, lo, ⟨h1, h2, h3, h4⟩, h, hp => by
    by_cases a : i < g.1
    · rw [inB_cons, decide_eq_false (by omega), Bool.false_or, inB_low h4 (by omega)] at h
      simp at h
    · by_cases b : g.2 < i
      · rw [inB_cons, decide_eq_false (by omega), Bool.false_or] at h
        have hp' : i = 0 ∨ inB r (i - 1) = false := by
          rcases hp with q | q
          · exact .inl q
          · rw [inB_cons, Bool.or_eq_false_iff] at q; exact .inr q.2
        rw [gU_cons (by omega), gU_cons (by omega), gU_new h4 h hp', Nat.min_eq_left (by omega), Nat.min_eq_left (by omega)]
        rfl
      · by_cases c : i = g.2
        · rw [inB_cons, decide_eq_false (by omega), Bool.false_or, inB_low h4 (by omega)] at h
          simp at h
        · have : i = g.1 := by
            rcases hp with q | q
            · omega
            · rw [inB_cons, Bool.or_eq_false_iff] at q
              have := of_decide_eq_false q.1
              omega
          subst this
          rw [gU_cons (by omega), gU_skip (by omega), gU_none h4 (by omega), gU_none h4 (by omega), Nat.min_eq_right (by omega)]
          rfl
theorem gU_more {hi i : Nat} : ∀ {gs : List (Nat × Nat)} {lo : Nat}, Ris lo gs hi → inB gs i = true → 0 < i → inB gs (i - 1) = true → ∃ P a, gU gs i = P ++ [(a, i)] ∧ gU gs (i + 1) = P ++ [(a, i + 1)]
  | [], _, _, h, _, _ => by simp [inB] at h
  | g :: r, lo, ⟨h1, h2, h3, h4⟩, h, h0, hp => by
    by_cases a : i < g.1
    · rw [inB_cons, decide_eq_false (by omega), Bool.false_or, inB_low h4 (by omega)] at h
      simp at h
    · by_cases b : g.2 < i
      · rw [inB_cons, decide_eq_false (by omega), Bool.false_or] at h hp
        obtain ⟨P, x, e1, e2⟩ := gU_more h4 h h0 hp
        refine ⟨(g.1, g.2) :: P, x, ?_, ?_⟩
        · rw [gU_cons (by omega), e1, Nat.min_eq_left (by omega)]; rfl
        · rw [gU_cons (by omega), e2, Nat.min_eq_left (by omega)]; rfl
      · by_cases c : i = g.2
        · rw [inB_cons, decide_eq_false (by omega), Bool.false_or, inB_low h4 (by omega)] at h
          simp at h
        · by_cases d : g.1 = i
          · rw [inB_cons, decide_eq_false (by omega), Bool.false_or, inB_low h4 (by omega)] at hp
            simp at hp
          · refine ⟨[], g.1, ?_, ?_⟩
            · rw [gU_cons (by omega), gU_none h4 (by omega), Nat.min_eq_right (by omega)]; rfl
            · rw [gU_cons (by omega), gU_none h4 (by omega), Nat.min_eq_right (by omega)]; rfl
end H11
end Go.Proofs.Ytcoaghcmbhogjaa
namespace Go.Proofs.Ytcoaghcmbhogjaa
open Go.RowKit Go.Maps
namespace H11

structure RV where
  hv : Value
  dv : Value
  pv : Value
def RB (R : Nat) (v : RV) (x : Nat) : Prop := x = R ∨ v.hv.ownBlock = some x ∨ v.dv.ownBlock = some x ∨ v.pv.ownBlock = some x
def ps1 (p : Nat × Nat × Bool) : List Value := [.int .i64 (p.1 : Int), .int .i64 (p.2.1 : Int), .bool p.2.2]
def psC (ps : List (Nat × Nat × Bool)) : List Value := ps.flatMap ps1
theorem psC_app (a : List (Nat × Nat × Bool)) (p : Nat × Nat × Bool) : psC (a ++ [p]) = psC a ++ ps1 p := by simp [psC]
theorem psC_at : ∀ (L : List (Nat × Nat × Bool)) (k j : Nat) (hk : k < L.length), j < 3 → (psC L)[k * 3 + j]? = (ps1 L[k])[j]?
  | [], k, _, hk, _ => by simp at hk
  | p :: r, k, j, hk, hj => by
    cases k with
    | zero =>
      rw [Nat.zero_mul, Nat.zero_add]
      simp only [psC, List.flatMap_cons, List.getElem_cons_zero]
      rw [List.getElem?_append_left (by simpa [ps1] using hj)]
    | succ k =>
      have ih := psC_at r k j (by simpa using hk) hj
      rw [show (k + 1) * 3 + j = 3 + (k * 3 + j) by omega]
      simp only [psC, List.flatMap_cons, List.getElem_cons_succ] at ih ⊢
      rw [List.getElem?_append_right (by simp [ps1]), show 3 + (k * 3 + j) - (ps1 p).length = k * 3 + j by simp [ps1]]
      exact ih

structure RM (w : World) (R mx : Nat) (hs : List Bool) (da : List Nat) (en : Int) (ps : List (Nat × Nat × Bool)) (v : RV) : Prop where
  c0 : w.cell? ⟨R, 0, none⟩ = some (.int .i64 mx)
  c1 : w.cell? ⟨R, 1, none⟩ = some v.hv
  c2 : w.cell? ⟨R, 2, none⟩ = some v.dv
  c3 : w.cell? ⟨R, 3, none⟩ = some (.int .i64 en)
  c4 : w.cell? ⟨R, 4, none⟩ = some v.pv
  fz : ∀ j, w.frozen? ⟨R, j, none⟩ = false
  ho : w.ownsRow 0 4 1 v.hv hs.length (hs.map Value.bool)
  ob : w.ownsRow 0 5 1 v.dv da.length ((toI da).map (Value.int .u8))
  po : w.ownsRow 0 93 3 v.pv ps.length (psC ps)
  nhR : v.hv.ownBlock ≠ some R
  ndR : v.dv.ownBlock ≠ some R
  npR : v.pv.ownBlock ≠ some R
  nhd : ∀ x, v.hv.ownBlock = some x → v.dv.ownBlock ≠ some x
  nhp : ∀ x, v.hv.ownBlock = some x → v.pv.ownBlock ≠ some x
  ndp : ∀ x, v.dv.ownBlock = some x → v.pv.ownBlock ≠ some x
/-- what a call leaves of it -/
def RMd (w : World) (R : Nat) (v : RV) (w' : World) (mx : Nat) (hs : List Bool) (da : List Nat) (en : Int) (ps : List (Nat × Nat × Bool)) : Prop := ∃ v', RM w' R mx hs da en ps v' ∧ (∀ x, RB R v' x → RB R v x ∨ w.heap.size ≤ x) ∧ Ch (RB R v) w w'
theorem RMd.then {w w1 w2 : World} {R : Nat} {v v1 : RV} {mx : Nat} {hs : List Bool} {da : List Nat} {en : Int} {ps : List (Nat × Nat × Bool)} (k : ∀ x, RB R v1 x → RB R v x ∨ w.heap.size ≤ x) (c : Ch (RB R v) w w1) (m : RMd w1 R v1 w2 mx hs da en ps) : RMd w R v w2 mx hs da en ps := by
  obtain ⟨v2, h2, k2, c2⟩ := m
  refine ⟨v2, h2, ?_, c.trans c2 ?_⟩
  · intro x hx
    rcases k2 x hx with h | h
    · exact k x h
    · exact .inr (Nat.le_trans c.size h)
  · intro x hlt hx
    rcases k x hx with h | h
    · exact h
    · omega
section
variable {w : World} {R mx : Nat} {hs : List Bool} {da : List Nat} {en : Int} {ps : List (Nat × Nat × Bool)} {v : RV} (h : RM w R mx hs da en ps v)
include h
theorem RM.lt : ∀ x, RB R v x → x < w.heap.size := by
  rintro x (rfl | hx | hx | hx)
  · exact World.block_lt_of_cell? w ⟨x, 0, none⟩ h.c0
  · exact (h.ho.lt x hx).2
  · exact (h.ob.lt x hx).2
  · exact (h.po.lt x hx).2
theorem RM.ch {T : Nat → Prop} {w' : World} (k : Ch T w w') (hT : ∀ x, RB R v x → ¬ T x) : RM w' R mx hs da en ps v where
  c0 := k.cell h.c0 (hT R (.inl rfl))
  c1 := k.cell h.c1 (hT R (.inl rfl))
  c2 := k.cell h.c2 (hT R (.inl rfl))
  c3 := k.cell h.c3 (hT R (.inl rfl))
  c4 := k.cell h.c4 (hT R (.inl rfl))
  fz := fun j => (k.frozen (p := ⟨R, j, none⟩) (h.lt R (.inl rfl)) (hT R (.inl rfl))).trans (h.fz j)
  ho := k.owns h.ho (fun g hg => hT g (.inr (.inl hg)))
  ob := k.owns h.ob (fun g hg => hT g (.inr (.inr (.inl hg))))
  po := k.owns h.po (fun g hg => hT g (.inr (.inr (.inr hg))))
  nhR := h.nhR
  ndR := h.ndR
  npR := h.npR
  nhd := h.nhd
  nhp := h.nhp
  ndp := h.ndp
theorem RM.below {w' : World} (k : Below w.heap.size w w') : RM w' R mx hs da en ps v := h.ch (Ch.ofBelow (S := fun _ => False) k) (fun _ _ => id)
theorem RM.setH {w1 : World} (c : Ch (fun q => v.hv.ownBlock = some q) w w1) (u : Value) (hs' : List Bool) (ho : w1.ownsRow 0 4 1 u hs'.length (hs'.map Value.bool))
    (hn : ∀ q, u.ownBlock = some q → v.hv.ownBlock = some q ∨ w.heap.size ≤ q) : RMd w R v (w1.setCell ⟨R, 1, none⟩ u) mx hs' da en ps := by
  have hlt := h.lt
  have kR : ¬ v.hv.ownBlock = some R := h.nhR
  have k2 : Ch (fun q => q = R) w1 (w1.setCell ⟨R, 1, none⟩ u) := (Ch.refl _ w1).set _ _ rfl
  have nR : u.ownBlock ≠ some R := by
    intro e
    rcases hn R e with k | k
    · exact kR k
    · have := hlt R (.inl rfl); omega
  have cR : ∀ {j : Nat} {z : Value}, w.cell? ⟨R, j, none⟩ = some z → j ≠ 1 → (w1.setCell ⟨R, 1, none⟩ u).cell? ⟨R, j, none⟩ = some z := by
    intro j z hz hj
    rw [cell_ne _ _ _ _ _ hj]
    exact c.cell hz kR
  have sd : ∀ x, u.ownBlock = some x → v.dv.ownBlock ≠ some x := by
    intro x hx hb
    rcases hn x hx with k | k
    · exact h.nhd x k hb
    · have := hlt x (.inr (.inr (.inl hb))); omega
  have sp : ∀ x, u.ownBlock = some x → v.pv.ownBlock ≠ some x := by
    intro x hx hb
    rcases hn x hx with k | k
    · exact h.nhp x k hb
    · have := hlt x (.inr (.inr (.inr hb))); omega
  refine ⟨{ v with hv := u }, ⟨cR h.c0 (by omega), World.cell?_setCell_same _ _ _ (c.cell h.c1 kR), cR h.c2 (by omega), cR h.c3 (by omega), cR h.c4 (by omega), ?_, k2.owns ho (fun g hg e => nR (by rw [← e]; exact hg)), k2.owns (c.owns h.ob (fun g hg e => h.nhd g e hg)) (fun g hg e => h.ndR (by rw [← e]; exact hg)), k2.owns (c.owns h.po (fun g hg e => h.nhp g e hg)) (fun g hg e => h.npR (by rw [← e]; exact hg)), nR, h.ndR, h.npR, fun q hq => sd q hq, fun q hq => sp q hq, h.ndp⟩, ?_, ?_⟩
  · intro j
    rw [World.frozen?_setCell]
    exact (c.frozen (p := ⟨R, j, none⟩) (hlt R (.inl rfl)) kR).trans (h.fz j)
  · rintro x (rfl | hx | hx | hx)
    · exact .inl (.inl rfl)
    · rcases hn x hx with k | k
      · exact .inl (.inr (.inl k))
      · exact .inr k
    · exact .inl (.inr (.inr (.inl hx)))
    · exact .inl (.inr (.inr (.inr hx)))
  · exact (c.mono (fun x _ e => .inr (.inl e))).trans k2 (fun x _ e => .inl e)
theorem RM.setD {w1 : World} (c : Ch (fun q => v.dv.ownBlock = some q) w w1) (u : Value) (da' : List Nat) (ho : w1.ownsRow 0 5 1 u da'.length ((toI da').map (Value.int .u8)))
    (hn : ∀ q, u.ownBlock = some q → v.dv.ownBlock = some q ∨ w.heap.size ≤ q) : RMd w R v (w1.setCell ⟨R, 2, none⟩ u) mx hs da' en ps := by
  have hlt := h.lt
  have kR : ¬ v.dv.ownBlock = some R := h.ndR
  have k2 : Ch (fun q => q = R) w1 (w1.setCell ⟨R, 2, none⟩ u) := (Ch.refl _ w1).set _ _ rfl
  have nR : u.ownBlock ≠ some R := by
    intro e
    rcases hn R e with k | k
    · exact kR k
    · have := hlt R (.inl rfl); omega
  have cR : ∀ {j : Nat} {z : Value}, w.cell? ⟨R, j, none⟩ = some z → j ≠ 2 → (w1.setCell ⟨R, 2, none⟩ u).cell? ⟨R, j, none⟩ = some z := by
    intro j z hz hj
    rw [cell_ne _ _ _ _ _ hj]
    exact c.cell hz kR
  have sh : ∀ x, u.ownBlock = some x → v.hv.ownBlock ≠ some x := by
    intro x hx hb
    rcases hn x hx with k | k
    · exact h.nhd x hb k
    · have := hlt x (.inr (.inl hb)); omega
  have sp : ∀ x, u.ownBlock = some x → v.pv.ownBlock ≠ some x := by
    intro x hx hb
    rcases hn x hx with k | k
    · exact h.ndp x k hb
    · have := hlt x (.inr (.inr (.inr hb))); omega
  refine ⟨{ v with dv := u }, ⟨cR h.c0 (by omega), cR h.c1 (by omega), World.cell?_setCell_same _ _ _ (c.cell h.c2 kR), cR h.c3 (by omega), cR h.c4 (by omega), ?_, k2.owns (c.owns h.ho (fun g hg e => h.nhd g hg e)) (fun g hg e => h.nhR (by rw [← e]; exact hg)), k2.owns ho (fun g hg e => nR (by rw [← e]; exact hg)), k2.owns (c.owns h.po (fun g hg e => h.ndp g e hg)) (fun g hg e => h.npR (by rw [← e]; exact hg)), h.nhR, nR, h.npR, fun q hq e => sh q e hq, h.nhp, fun q hq => sp q hq⟩, ?_, ?_⟩
  · intro j
    rw [World.frozen?_setCell]
    exact (c.frozen (p := ⟨R, j, none⟩) (hlt R (.inl rfl)) kR).trans (h.fz j)
  · rintro x (rfl | hx | hx | hx)
    · exact .inl (.inl rfl)
    · exact .inl (.inr (.inl hx))
    · rcases hn x hx with k | k
      · exact .inl (.inr (.inr (.inl k)))
      · exact .inr k
    · exact .inl (.inr (.inr (.inr hx)))
  · exact (c.mono (fun x _ e => .inr (.inr (.inl e)))).trans k2 (fun x _ e => .inl e)
theorem RM.setP {w1 : World} (c : Ch (fun q => v.pv.ownBlock = some q) w w1) (u : Value) (ps' : List (Nat × Nat × Bool)) (ho : w1.ownsRow 0 93 3 u ps'.length (psC ps'))
    (hn : ∀ q, u.ownBlock = some q → v.pv.ownBlock = some q ∨ w.heap.size ≤ q) : RMd w R v (w1.setCell ⟨R, 4, none⟩ u) mx hs da en ps' := by
  have hlt := h.lt
  have kR : ¬ v.pv.ownBlock = some R := h.npR
  have k2 : Ch (fun q => q = R) w1 (w1.setCell ⟨R, 4, none⟩ u) := (Ch.refl _ w1).set _ _ rfl
  have nR : u.ownBlock ≠ some R := by
    intro e
    rcases hn R e with k | k
    · exact kR k
    · have := hlt R (.inl rfl); omega
  have cR : ∀ {j : Nat} {z : Value}, w.cell? ⟨R, j, none⟩ = some z → j ≠ 4 → (w1.setCell ⟨R, 4, none⟩ u).cell? ⟨R, j, none⟩ = some z := by
    intro j z hz hj
    rw [cell_ne _ _ _ _ _ hj]
    exact c.cell hz kR
  have sh : ∀ x, u.ownBlock = some x → v.hv.ownBlock ≠ some x := by
    intro x hx hb
    rcases hn x hx with k | k
    · exact h.nhp x hb k
    · have := hlt x (.inr (.inl hb)); omega
  have sd : ∀ x, u.ownBlock = some x → v.dv.ownBlock ≠ some x := by
    intro x hx hb
    rcases hn x hx with k | k
    · exact h.ndp x hb k
    · have := hlt x (.inr (.inr (.inl hb))); omega
  refine ⟨{ v with pv := u }, ⟨cR h.c0 (by omega), cR h.c1 (by omega), cR h.c2 (by omega), cR h.c3 (by omega), World.cell?_setCell_same _ _ _ (c.cell h.c4 kR), ?_, k2.owns (c.owns h.ho (fun g hg e => h.nhp g hg e)) (fun g hg e => h.nhR (by rw [← e]; exact hg)), k2.owns (c.owns h.ob (fun g hg e => h.ndp g hg e)) (fun g hg e => h.ndR (by rw [← e]; exact hg)), k2.owns ho (fun g hg e => nR (by rw [← e]; exact hg)), h.nhR, h.ndR, nR, h.nhd, fun q hq e => sh q e hq, fun q hq e => sd q e hq⟩, ?_, ?_⟩
  · intro j
    rw [World.frozen?_setCell]
    exact (c.frozen (p := ⟨R, j, none⟩) (hlt R (.inl rfl)) kR).trans (h.fz j)
  · rintro x (rfl | hx | hx | hx)
    · exact .inl (.inl rfl)
    · exact .inl (.inr (.inl hx))
    · exact .inl (.inr (.inr (.inl hx)))
    · rcases hn x hx with k | k
      · exact .inl (.inr (.inr (.inr k)))
      · exact .inr k
  · exact (c.mono (fun x _ e => .inr (.inr (.inr e)))).trans k2 (fun x _ e => .inl e)
theorem RM.setE (e : Int) : RMd w R v (w.setCell ⟨R, 3, none⟩ (.int .i64 e)) mx hs da e ps := by
  have k2 : Ch (fun q => q = R) w (w.setCell ⟨R, 3, none⟩ (.int .i64 e)) := (Ch.refl _ w).set _ _ rfl
  have cR : ∀ {j : Nat} {z : Value}, w.cell? ⟨R, j, none⟩ = some z → j ≠ 3 → (w.setCell ⟨R, 3, none⟩ (.int .i64 e)).cell? ⟨R, j, none⟩ = some z := by
    intro j z hz hj
    rw [cell_ne _ _ _ _ _ hj]
    exact hz
  refine ⟨v, ⟨cR h.c0 (by omega), cR h.c1 (by omega), cR h.c2 (by omega), World.cell?_setCell_same _ _ _ h.c3, cR h.c4 (by omega), ?_, k2.owns h.ho (fun g hg e => h.nhR (by rw [← e]; exact hg)), k2.owns h.ob (fun g hg e => h.ndR (by rw [← e]; exact hg)), k2.owns h.po (fun g hg e => h.npR (by rw [← e]; exact hg)), h.nhR, h.ndR, h.npR, h.nhd, h.nhp, h.ndp⟩, fun x hx => .inl hx, k2.mono (fun x _ e => .inl e)⟩
  intro j
  rw [World.frozen?_setCell]
  exact h.fz j
/-- one place of the held row -/
theorem RM.putH {g n c : Nat} (hv : v.hv = .slice (some ⟨g, 0, none⟩) n c) (hn : n = hs.length) (i : Nat) (b : Bool) : RM (w.setCell ⟨g, i, none⟩ (.bool b)) R mx (hs.set i b) da en ps v ∧ Ch (RB R v) w (w.setCell ⟨g, i, none⟩ (.bool b)) := by
  have hg : v.hv.ownBlock = some g := by rw [hv]; rfl
  have k2 : Ch (fun q => q = g) w (w.setCell ⟨g, i, none⟩ (.bool b)) := (Ch.refl _ w).set _ _ rfl
  have hR : ¬ R = g := fun e => h.nhR (by rw [e]; exact hg)
  have ho := h.ho
  rw [hv, ← hn] at ho
  have h1 := (ho.stored i (.bool b)).1
  refine ⟨⟨k2.cell h.c0 hR, k2.cell h.c1 hR, k2.cell h.c2 hR, k2.cell h.c3 hR, k2.cell h.c4 hR, ?_, ?_, k2.owns h.ob (fun x hx e => h.nhd g hg (by rw [← e]; exact hx)), k2.owns h.po (fun x hx e => h.nhp g hg (by rw [← e]; exact hx)), h.nhR, h.ndR, h.npR, h.nhd, h.nhp, h.ndp⟩, k2.mono (fun x _ e => .inr (.inl (by rw [e]; exact hg)))⟩
  · intro j
    rw [World.frozen?_setCell]
    exact h.fz j
  · rw [hv, List.length_set, ← hn, List.map_set]
    exact h1
/-- one byte -/
theorem RM.putD {g n c : Nat} (hv : v.dv = .slice (some ⟨g, 0, none⟩) n c) (hn : n = da.length) (i : Nat) (b : Nat) : RM (w.setCell ⟨g, i, none⟩ (.int .u8 (b : Int))) R mx hs (da.set i b) en ps v ∧ Ch (RB R v) w (w.setCell ⟨g, i, none⟩ (.int .u8 (b : Int))) := by
  have hg : v.dv.ownBlock = some g := by rw [hv]; rfl
  have k2 : Ch (fun q => q = g) w (w.setCell ⟨g, i, none⟩ (.int .u8 (b : Int))) := (Ch.refl _ w).set _ _ rfl
  have hR : ¬ R = g := fun e => h.ndR (by rw [e]; exact hg)
  have ho := h.ob
  rw [hv, ← hn] at ho
  have h1 := (ho.stored i (.int .u8 (b : Int))).1
  refine ⟨⟨k2.cell h.c0 hR, k2.cell h.c1 hR, k2.cell h.c2 hR, k2.cell h.c3 hR, k2.cell h.c4 hR, ?_, k2.owns h.ho (fun x hx e => h.nhd x hx (by rw [e]; exact hg)), ?_, k2.owns h.po (fun x hx e => h.ndp g hg (by rw [← e]; exact hx)), h.nhR, h.ndR, h.npR, h.nhd, h.nhp, h.ndp⟩, k2.mono (fun x _ e => .inr (.inr (.inl (by rw [e]; exact hg))))⟩
  · intro j
    rw [World.frozen?_setCell]
    exact h.fz j
  · rw [hv, List.length_set, ← hn]
    have e : (toI (da.set i b)).map (Value.int .u8) = ((toI da).map (Value.int .u8)).set i (.int .u8 (b : Int)) := by unfold toI; rw [List.map_set, List.map_set]
    rw [e]
    exact h1
end
end H11
end Go.Proofs.Ytcoaghcmbhogjaa
namespace Go.Proofs.Ytcoaghcmbhogjaa
open Go.RowKit Go.Maps
namespace H11
def eE (s : HS) : Int := if 0 < s.en then (s.en : Int) else -1
set_option maxRecDepth 100000 in
set_option maxHeartbeats 3200000 in
theorem refusedR_any (w : World) (R : Nat) (s : HS) (hs : List Bool) (da : List Nat) (ps : List (Nat × Nat × Bool)) (v : RV) (h : RM w R s.mx hs da (eE s) ps v) (hl : hs.length = s.bs.length) (hm : s.mx ≤ 65535) (off : Int) (n : Nat) (more : Bool) :
    Calls Try.prog 44 #[.pointer (some ⟨R, 0, none⟩), .int .i64 off, .int .i64 (n : Int), .bool more] w fun e w' => e = .returned (.int .i64 (rf s off n more)) ∧ w = w' := by
  obtain ⟨ha, hc, hv⟩ := owns_shape h.ho
  have c0 := h.c0
  have c1 := h.c1
  have c3 := h.c3
  rw [hv, hl] at c1
  obtain ⟨L, hL⟩ : ∃ L, L = s.bs.length := ⟨_, rfl⟩
  rw [← hL] at c1
  obtain ⟨M, hM⟩ : ∃ M, M = s.mx := ⟨_, rfl⟩
  rw [← hM] at c0 hm
  obtain ⟨E, hE⟩ : ∃ E, E = eE s := ⟨_, rfl⟩
  rw [← hE] at c3
  have HX : Hid (L = s.bs.length ∧ M = s.mx ∧ E = eE s) := ⟨hL, hM, hE⟩
  clear h hv hl hL hM hE
  by_cases a1 : 65535 < n
  · have f1 : (65535 : Int) < (n : Int) := by omega
    have HR : Hid (rf s off n more = 2) := by
      show rf s off n more = 2
      obtain ⟨x1, x2, x3⟩ := HX.out
      unfold rf
      rw [if_pos a1]
    clear a1
    go_enter Try.func44, Try.ntmps44
    go_wp2
    go_ret
    exact ⟨by rw [HR.out]; rfl, rfl⟩
  · have f1 : ¬ (65535 : Int) < (n : Int) := by omega
    by_cases b1 : off < 0
    · have HR : Hid (rf s off n more = 110) := by
        show rf s off n more = 110
        obtain ⟨x1, x2, x3⟩ := HX.out
        unfold rf
        rw [if_neg a1, if_pos (.inl b1)]
      clear a1
      go_enter Try.func44, Try.ntmps44
      go_wp2
      go_ret
      exact ⟨by rw [HR.out]; rfl, rfl⟩
    · by_cases b2 : off.tmod 8 = 0
      · have f2 : (off % 8 != 0) = false := by rw [← Int.tmod_eq_emod_of_nonneg (by omega), b2]; rfl
        by_cases b3 : more = true ∧ (n : Int).tmod 8 ≠ 0
        · obtain ⟨rfl, b4⟩ := b3
          have f3 : ((n : Int) % 8 != 0) = true := by rw [← Int.tmod_eq_emod_of_nonneg (by omega), bne_iff_ne]; exact b4
          have HR : Hid (rf s off n true = 110) := by
            show rf s off n true = 110
            obtain ⟨x1, x2, x3⟩ := HX.out
            unfold rf
            rw [if_neg a1, if_pos (.inr (.inr ⟨rfl, b4⟩))]
          clear a1 b2 b4
          go_enter Try.func44, Try.ntmps44
          go_wp2
          go_ret
          exact ⟨by rw [HR.out]; rfl, rfl⟩
        · have hb : ¬ (off < 0 ∨ off.tmod 8 ≠ 0 ∨ (more = true ∧ (n : Int).tmod 8 ≠ 0)) := fun q => q.elim b1 (fun q => q.elim (fun q => q b2) b3)
          have f3 : more = true → ((n : Int) % 8 != 0) = false := by
            intro q
            have : (n : Int).tmod 8 = 0 := Classical.byContradiction (fun k => b3 ⟨q, k⟩)
            rw [← Int.tmod_eq_emod_of_nonneg (by omega), this]; rfl
          clear b2 b3
          by_cases a3 : n = 0
          · have f4 : ((n : Int) == 0) = true := by rw [beq_iff_eq]; omega
            cases more with
            | true =>
              have f5 := f3 rfl
              have HR : Hid (rf s off n true = 111) := by
                show rf s off n true = 111
                obtain ⟨x1, x2, x3⟩ := HX.out
                unfold rf
                rw [if_neg a1, if_neg hb, if_pos a3]
              clear a1 hb a3 f3
              go_enter Try.func44, Try.ntmps44
              go_wp2
              go_ret
              exact ⟨by rw [HR.out]; rfl, rfl⟩
            | false =>
              have HR : Hid (rf s off n false = 111) := by
                show rf s off n false = 111
                obtain ⟨x1, x2, x3⟩ := HX.out
                unfold rf
                rw [if_neg a1, if_neg hb, if_pos a3]
              clear a1 hb a3 f3
              go_enter Try.func44, Try.ntmps44
              go_wp2
              go_ret
              exact ⟨by rw [HR.out]; rfl, rfl⟩
          · have f4 : ((n : Int) == 0) = false := by rw [beq_eq_false_iff_ne]; omega
            by_cases a4 : (M : Int) < off
            · have a5 : (M : Int) - n < off := by omega
              cases more with
              | true =>
                have f5 := f3 rfl
                have HR : Hid (rf s off n true = 112) := by
                  show rf s off n true = 112
                  obtain ⟨x1, x2, x3⟩ := HX.out
                  unfold rf
                  rw [if_neg a1, if_neg hb, if_neg a3, if_pos (by rw [← x2]; exact a5)]
                clear a1 hb a3 f3 a5
                go_enter Try.func44, Try.ntmps44
                go_wp2
                go_ret
                exact ⟨by rw [HR.out]; rfl, rfl⟩
              | false =>
                have HR : Hid (rf s off n false = 112) := by
                  show rf s off n false = 112
                  obtain ⟨x1, x2, x3⟩ := HX.out
                  unfold rf
                  rw [if_neg a1, if_neg hb, if_neg a3, if_pos (by rw [← x2]; exact a5)]
                clear a1 hb a3 f3 a5
                go_enter Try.func44, Try.ntmps44
                go_wp2
                go_ret
                exact ⟨by rw [HR.out]; rfl, rfl⟩
            · have w1 : IntKind.i64.wrap (off + (n : Int)) = off + (n : Int) := by rw [IntKind.wrap_i64]; omega
              by_cases a5 : (M : Int) < off + (n : Int)
              · have a6 : (M : Int) - n < off := by omega
                cases more with
                | true =>
                  have f5 := f3 rfl
                  have HR : Hid (rf s off n true = 112) := by
                    show rf s off n true = 112
                    obtain ⟨x1, x2, x3⟩ := HX.out
                    unfold rf
                    rw [if_neg a1, if_neg hb, if_neg a3, if_pos (by rw [← x2]; exact a6)]
                  clear a1 hb a3 f3 a6
                  go_enter Try.func44, Try.ntmps44
                  go_wp2
                  go_ret
                  exact ⟨by rw [HR.out]; rfl, rfl⟩
                | false =>
                  have HR : Hid (rf s off n false = 112) := by
                    show rf s off n false = 112
                    obtain ⟨x1, x2, x3⟩ := HX.out
                    unfold rf
                    rw [if_neg a1, if_neg hb, if_neg a3, if_pos (by rw [← x2]; exact a6)]
                  clear a1 hb a3 f3 a6
                  go_enter Try.func44, Try.ntmps44
                  go_wp2
                  go_ret
                  exact ⟨by rw [HR.out]; rfl, rfl⟩
              · have a6 : ¬ (M : Int) - n < off := by omega
                by_cases a7 : 0 < s.en
                · obtain ⟨e, he⟩ : ∃ e, e = s.en := ⟨_, rfl⟩
                  have hEe : E = (e : Int) := by rw [HX.out.2.2, he]; unfold eE; rw [if_pos a7]
                  subst hEe
                  have g0 : (0 : Int) ≤ (e : Int) := by omega
                  cases more with
                  | true =>
                    have f5 := f3 rfl
                    by_cases a8 : (e : Int) < off + (n : Int)
                    · have HR : Hid (rf s off n true = 113) := by
                        show rf s off n true = 113
                        obtain ⟨x1, x2, x3⟩ := HX.out
                        unfold rf
                        rw [if_neg a1, if_neg hb, if_neg a3, if_neg (by rw [← x2]; exact a6), if_pos ⟨a7, rfl, by rw [← he]; exact a8⟩]
                      clear a1 hb a3 f3 a6 a7 he
                      go_enter Try.func44, Try.ntmps44
                      go_wp2
                      go_ret
                      exact ⟨by rw [HR.out]; rfl, rfl⟩
                    · have HR : Hid (rf s off n true = 0) := by
                        show rf s off n true = 0
                        obtain ⟨x1, x2, x3⟩ := HX.out
                        unfold rf
                        rw [if_neg a1, if_neg hb, if_neg a3, if_neg (by rw [← x2]; exact a6), if_neg (fun q => a8 (by rw [he]; exact q.2.2)), if_neg (by simp), if_neg (by simp)]
                      clear a1 hb a3 f3 a6 a7 he
                      go_enter Try.func44, Try.ntmps44
                      go_wp2
                      go_ret
                      exact ⟨by rw [HR.out]; rfl, rfl⟩
                  | false =>
                    by_cases a8 : off + (n : Int) = (e : Int)
                    · have f6 : ((off + (n : Int)) != (e : Int)) = false := by rw [a8]; simp
                      have HR : Hid (rf s off n false = 0) := by
                        show rf s off n false = 0
                        obtain ⟨x1, x2, x3⟩ := HX.out
                        unfold rf
                        rw [if_neg a1, if_neg hb, if_neg a3, if_neg (by rw [← x2]; exact a6), if_neg (by simp), if_neg (fun q => q.2.2 (by rw [← he]; exact a8)), if_neg (fun q => by omega)]
                      clear a1 hb a3 f3 a6 a7 he a8
                      go_enter Try.func44, Try.ntmps44
                      go_wp2
                      go_ret
                      exact ⟨by rw [HR.out]; rfl, rfl⟩
                    · have f6 : ((off + (n : Int)) != (e : Int)) = true := by rw [bne_iff_ne]; exact a8
                      have HR : Hid (rf s off n false = 114) := by
                        show rf s off n false = 114
                        obtain ⟨x1, x2, x3⟩ := HX.out
                        unfold rf
                        rw [if_neg a1, if_neg hb, if_neg a3, if_neg (by rw [← x2]; exact a6), if_neg (by simp), if_pos ⟨a7, rfl, by rw [← he]; exact a8⟩]
                      clear a1 hb a3 f3 a6 a7 he a8
                      go_enter Try.func44, Try.ntmps44
                      go_wp2
                      go_ret
                      exact ⟨by rw [HR.out]; rfl, rfl⟩
                · have hEe : E = -1 := by rw [HX.out.2.2]; unfold eE; rw [if_neg a7]
                  subst hEe
                  cases more with
                  | true =>
                    have f5 := f3 rfl
                    have HR : Hid (rf s off n true = 0) := by
                      show rf s off n true = 0
                      obtain ⟨x1, x2, x3⟩ := HX.out
                      unfold rf
                      rw [if_neg a1, if_neg hb, if_neg a3, if_neg (by rw [← x2]; exact a6), if_neg (fun q => a7 q.1), if_neg (fun q => a7 q.1), if_neg (by simp)]
                    clear a1 hb a3 f3 a6 a7
                    go_enter Try.func44, Try.ntmps44
                    go_wp2
                    go_ret
                    exact ⟨by rw [HR.out]; rfl, rfl⟩
                  | false =>
                    by_cases a8 : off + (n : Int) < (L : Int)
                    · have HR : Hid (rf s off n false = 114) := by
                        show rf s off n false = 114
                        obtain ⟨x1, x2, x3⟩ := HX.out
                        unfold rf
                        rw [if_neg a1, if_neg hb, if_neg a3, if_neg (by rw [← x2]; exact a6), if_neg (fun q => a7 q.1), if_neg (fun q => a7 q.1), if_pos ⟨by omega, rfl, by rw [← x1]; exact a8⟩]
                      clear a1 hb a3 f3 a6 a7
                      go_enter Try.func44, Try.ntmps44
                      go_wp2
                      go_ret
                      exact ⟨by rw [HR.out]; rfl, rfl⟩
                    · have HR : Hid (rf s off n false = 0) := by
                        show rf s off n false = 0
                        obtain ⟨x1, x2, x3⟩ := HX.out
                        unfold rf
                        rw [if_neg a1, if_neg hb, if_neg a3, if_neg (by rw [← x2]; exact a6), if_neg (fun q => a7 q.1), if_neg (fun q => a7 q.1), if_neg (fun q => a8 (by rw [x1]; exact q.2.2))]
                      clear a1 hb a3 f3 a6 a7
                      go_enter Try.func44, Try.ntmps44
                      go_wp2
                      go_ret
                      exact ⟨by rw [HR.out]; rfl, rfl⟩
      · have f2 : (off % 8 != 0) = true := by rw [← Int.tmod_eq_emod_of_nonneg (by omega), bne_iff_ne]; exact b2
        have HR : Hid (rf s off n more = 110) := by
          show rf s off n more = 110
          obtain ⟨x1, x2, x3⟩ := HX.out
          unfold rf
          rw [if_neg a1, if_pos (.inr (.inl b2))]
        clear a1 b2
        go_enter Try.func44, Try.ntmps44
        go_wp2
        go_ret
        exact ⟨by rw [HR.out]; rfl, rfl⟩
end H11
end Go.Proofs.Ytcoaghcmbhogjaa
namespace Go.Proofs.Ytcoaghcmbhogjaa
open Go.RowKit Go.Maps
namespace H11
def hsL (s : HS) : List Bool := (List.range s.bs.length).map (fun i => !inB s.gp i)
theorem hsL_len (s : HS) : (hsL s).length = s.bs.length := by simp [hsL]
def RAt (w : World) (R : Nat) (s : HS) (v : RV) : Prop := RM w R s.mx (hsL s) s.bs (eE s) s.tk.reverse v
theorem RAt.ch {T : Nat → Prop} {w w' : World} {R : Nat} {s : HS} {v : RV} (h : RAt w R s v) (k : Ch T w w') (hT : ∀ x, RB R v x → ¬ T x) : RAt w' R s v := RM.ch h k hT
theorem RAt.below {w w' : World} {R : Nat} {s : HS} {v : RV} (h : RAt w R s v) (k : Below w.heap.size w w') : RAt w' R s v := RM.below h k
theorem RAt.lt {w : World} {R : Nat} {s : HS} {v : RV} (h : RAt w R s v) : ∀ x, RB R v x → x < w.heap.size := RM.lt h
/-- one place of the held row -/
theorem RAt.place {w : World} {R : Nat} {s : HS} {v : RV} (h : RAt w R s v) (i : Nat) (hi : i < s.bs.length) : ∃ g c, v.hv = .slice (some ⟨g, 0, none⟩) s.bs.length c ∧ w.cell? ⟨g, i, none⟩ = some (.bool (!inB s.gp i)) := by
  have ho := RM.ho h
  rw [hsL_len] at ho
  rcases ho.2 with ⟨_, e2⟩ | ⟨g, cap, cur, e1, _⟩
  · omega
  · rw [e1] at ho
    refine ⟨g, cap, e1, ?_⟩
    rw [ho.cellAt i (by omega)]
    simp [hsL, hi]
theorem eE_pos {s : HS} (h : 0 < s.en) : eE s = (s.en : Int) := by unfold eE; rw [if_pos h]
theorem eE_neg {s : HS} (h : ¬ 0 < s.en) : eE s = -1 := by unfold eE; rw [if_neg h]
theorem hold_at {s : HS} (hi : Inv s) (i : Nat) (h : i < s.bd) : (decide (i < s.bs.length) && !inB s.gp i) = !inB s.gp i := by
  by_cases k : i < s.bs.length
  · rw [decide_eq_true k, Bool.true_and]
  · rw [decide_eq_false k, Bool.false_and, inB_iff.2 (hi.hd i (by omega) h)]; rfl

set_option maxRecDepth 100000 in
set_option maxHeartbeats 3200000 in
theorem boundR_any (w : World) (R : Nat) (s : HS) (v : RV) (h : RAt w R s v) :
    Calls Try.prog 45 #[.pointer (some ⟨R, 0, none⟩)] w fun r w' => r = .returned (.int .i64 (s.bd : Int)) ∧ w = w' := by
  have c0 := RM.c0 h
  have c3 := RM.c3 h
  clear h
  obtain ⟨b, hb⟩ : ∃ b, b = s.bd := ⟨_, rfl⟩
  rw [← hb]
  by_cases k : 0 < s.en
  · rw [eE_pos k] at c3
    have e : s.en = b := by rw [hb]; unfold HS.bd; rw [if_pos k]
    rw [e] at c3
    have d : (0 : Int) ≤ (b : Int) := by omega
    clear hb e k
    go_enter Try.func45, Try.ntmps45
    go_wp2
    go_ret
    exact ⟨rfl, rfl⟩
  · rw [eE_neg k] at c3
    have e : s.mx = b := by rw [hb]; unfold HS.bd; rw [if_neg k]
    rw [e] at c0
    clear hb e k
    go_enter Try.func45, Try.ntmps45
    go_wp2
    go_ret
    exact ⟨rfl, rfl⟩
set_option maxRecDepth 100000 in
set_option maxHeartbeats 3200000 in
theorem heldAtR_any (w : World) (R : Nat) (s : HS) (v : RV) (h : RAt w R s v) (hi : Inv s) (i : Nat) (hib : i < s.bd) :
    Calls Try.prog 46 #[.pointer (some ⟨R, 0, none⟩), .int .i64 (i : Int)] w fun r w' => r = .returned (.bool (!inB s.gp i)) ∧ w = w' := by
  have c1 := RM.c1 h
  rw [← hold_at hi i hib]
  by_cases k : i < s.bs.length
  · obtain ⟨g, c, e1, e2⟩ := h.place i k
    rw [e1] at c1
    rw [decide_eq_true k, Bool.true_and]
    obtain ⟨b, hb⟩ : ∃ b, b = !inB s.gp i := ⟨_, rfl⟩
    rw [← hb] at e2 ⊢
    obtain ⟨L, hL⟩ : ∃ L, L = s.bs.length := ⟨_, rfl⟩
    rw [← hL] at c1 k
    have d : (i : Int) < (L : Int) := by omega
    clear h hi e1 hb hL hib
    go_enter Try.func46, Try.ntmps46
    go_wp2
    go_ret
    exact ⟨rfl, rfl⟩
  · obtain ⟨ha, hc, hv⟩ := owns_shape (RM.ho h)
    rw [hv, hsL_len] at c1
    rw [decide_eq_false k, Bool.false_and]
    obtain ⟨L, hL⟩ : ∃ L, L = s.bs.length := ⟨_, rfl⟩
    rw [← hL] at c1 k
    have d : ¬ (i : Int) < (L : Int) := by omega
    clear h hi hv hL hib
    go_enter Try.func46, Try.ntmps46
    go_wp2
    go_ret
    exact ⟨rfl, rfl⟩
set_option maxRecDepth 100000 in
set_option maxHeartbeats 3200000 in
theorem totalR_any (w : World) (R : Nat) (s : HS) (v : RV) (h : RAt w R s v) :
    Calls Try.prog 40 #[.pointer (some ⟨R, 0, none⟩)] w fun r w' => r = .returned (.tuple #[.int .i64 (s.en : Int), .bool (decide (0 < s.en))]) ∧ w = w' := by
  have c3 := RM.c3 h
  clear h
  by_cases k : 0 < s.en
  · rw [eE_pos k] at c3
    rw [decide_eq_true k]
    obtain ⟨e, he⟩ : ∃ e, e = s.en := ⟨_, rfl⟩
    rw [← he] at c3 ⊢
    have d : ¬ (e : Int) < 0 := by omega
    clear he k
    go_enter Try.func40, Try.ntmps40
    go_wp2
    go_ret2
    exact ⟨rfl, rfl⟩
  · rw [eE_neg k] at c3
    have e : s.en = 0 := by omega
    rw [decide_eq_false k, e]
    clear e k
    go_enter Try.func40, Try.ntmps40
    go_wp2
    go_ret2
    exact ⟨rfl, rfl⟩
set_option maxRecDepth 100000 in
set_option maxHeartbeats 3200000 in
theorem heldR_any (w : World) (R : Nat) (s : HS) (v : RV) (h : RAt w R s v) (hi : Inv s) :
    Calls Try.prog 42 #[.pointer (some ⟨R, 0, none⟩)] w fun r w' => r = .returned (.int .i64 ((s.bd : Int) - (sm s.gp : Int))) ∧ w = w' := by
  have c1 := RM.c1 h
  obtain ⟨ha, hc, hv⟩ := owns_shape (RM.ho h)
  rw [hv, hsL_len] at c1
  rw [hsL_len] at hv
  have HP : Hid (∀ i, i < s.bs.length → ∃ g, ha = some ⟨g, 0, none⟩ ∧ w.cell? ⟨g, i, none⟩ = some (.bool (!inB s.gp i))) := by
    intro i hi
    obtain ⟨g, c, e1, e2⟩ := h.place i hi
    rw [hv] at e1
    simp only [Value.slice.injEq, true_and] at e1
    exact ⟨g, e1.1, e2⟩
  obtain ⟨k1, k2⟩ := held_cnt hi
  have HK : Hid (((s.bd : Int) - (sm s.gp : Int)) = (cnt (fun i => !inB s.gp i) s.bs.length : Int)) := by show _ = _; omega
  rw [HK.out]
  obtain ⟨L, hL⟩ : ∃ L, L = s.bs.length := ⟨_, rfl⟩
  rw [← hL] at c1 HP ⊢
  have hL5 : L ≤ 65535 := by have h1 := hi.bl; have h2 := (HS.bd_le hi).1; omega
  clear h hi hv hL HK k1 k2
  go_enter Try.func42, Try.ntmps42
  go_wp2
  go_loopw [3, 4] (fun nv ix wr => ∃ k : Nat, k ≤ L ∧ ix = .int .i64 (k : Int) ∧ nv = .int .i64 (cnt (fun i => !inB s.gp i) k : Int) ∧ w = wr) (fun _ ix _ => L - (intOf ix).toNat)
  case atStart => exact ⟨0, Nat.zero_le _, rfl, rfl, rfl⟩
  case round =>
    obtain ⟨k, hk, rfl, rfl, rfl⟩ := hrel
    by_cases hge : L ≤ k
    · have e : k = L := by omega
      subst e
      have d : ¬ (k : Int) < (k : Int) := by omega
      clear hge
      go_wp2
      go_ret
      exact ⟨rfl, rfl⟩
    · obtain ⟨g, hg, hcc⟩ := HP.out k (by omega)
      subst hg
      have d : (k : Int) < (L : Int) := by omega
      obtain ⟨c, hcn⟩ : ∃ c, c = cnt (fun i => !inB s.gp i) k := ⟨_, rfl⟩
      have hck : c ≤ k := by rw [hcn]; exact cnt_le _ _
      have HN : Hid (cnt (fun i => !inB s.gp i) (k + 1) = c + (if (!inB s.gp k) = true then 1 else 0)) := by rw [hcn]; rfl
      rw [← hcn]
      clear hcn hge
      have w1 : IntKind.i64.wrap ((c : Int) + 1) = ((c + 1 : Nat) : Int) := by rw [IntKind.wrap_i64]; omega
      cases hb : (!inB s.gp k) with
      | true =>
        rw [hb] at hcc HN
        rw [if_pos rfl] at HN
        clear hb
        go_wp2
        go_roundw
        case rel => exact ⟨k + 1, by omega, by go_num, by rw [HN.out]; first | rfl | simp, by first | rfl | trivial⟩
        case measure => simp [intOf]; omega
      | false =>
        rw [hb] at hcc HN
        rw [if_neg (by simp)] at HN
        clear hb
        go_wp2
        go_roundw
        case rel => exact ⟨k + 1, by omega, by go_num, by rw [HN.out]; rfl, by first | rfl | trivial⟩
        case measure => simp [intOf]; omega
set_option maxRecDepth 100000 in
set_option maxHeartbeats 3200000 in
theorem wholeR_any (w : World) (R : Nat) (s : HS) (v : RV) (h : RAt w R s v) (hi : Inv s) :
    Calls Try.prog 41 #[.pointer (some ⟨R, 0, none⟩)] w fun r w' => r = .returned (.bool (decide (0 < s.en ∧ s.gp = []))) ∧ Below w.heap.size w w' := by
  have c3 := RM.c3 h
  have QH : Hid (∀ A : World, RAt A R s v → Calls Try.prog 42 #[.pointer (some ⟨R, 0, none⟩)] A fun r w' => r = .returned (.int .i64 ((s.bd : Int) - (sm s.gp : Int))) ∧ A = w') := fun A hA => heldR_any A R s v hA hi
  have H : Hid (RAt w R s v) := h
  clear h
  by_cases k : 0 < s.en
  · rw [eE_pos k] at c3
    have hw := held_whole hi k
    have h2 := (held_cnt hi).2
    have HD : Hid (decide (0 < s.en ∧ s.gp = []) = (((s.bd : Int) - (sm s.gp : Int)) == (s.en : Int))) := by
      show _ = _
      by_cases q : s.gp = []
      · rw [decide_eq_true ⟨k, q⟩]
        have := hw.2 q
        symm
        rw [beq_iff_eq]
        omega
      · rw [decide_eq_false (fun z => q z.2)]
        symm
        rw [beq_eq_false_iff_ne]
        intro z
        exact q (hw.1 (by omega))
    rw [HD.out]
    obtain ⟨E, hE⟩ : ∃ E, E = s.en := ⟨_, rfl⟩
    rw [← hE] at c3 ⊢
    obtain ⟨X, hX⟩ : ∃ X, X = (s.bd : Int) - (sm s.gp : Int) := ⟨_, rfl⟩
    rw [← hX] at QH ⊢
    obtain ⟨B, hB⟩ : ∃ B, B = (X == (E : Int)) := ⟨_, rfl⟩
    rw [← hB]
    have d : (0 : Int) ≤ (E : Int) := by omega
    have hB' : (X == (E : Int)) = B := hB.symm
    clear HD hE hX hw h2 k hB
    go_enter Try.func41, Try.ntmps41
    go_upto_region 1 with fail
    refine MixH.start (fun A => A.cell? ⟨R, 3, none⟩ = some (.int .i64 (E : Int))) (by kernel_rfl) ?_
    obtain ⟨wA, hwA⟩ : ∃ wA, wA = w.drew := ⟨_, rfl⟩
    have hS : wA.cell? ⟨R, 3, none⟩ = some (.int .i64 (E : Int)) := by rw [hwA]; exact c3
    have hb : Below w.heap.size w w.drew := drew_below (Below.refl _ _)
    have HA : Hid (RAt wA R s v) := by rw [hwA]; exact H.out.below hb
    have HBW : Hid (Below w.heap.size w wA) := by rw [hwA]; exact hb
    rw [← hwA]
    clear hwA c3 hb H
    refine MixH.takes [true, true, true] 12 (by kernel_rfl) (by kernel_rfl) (by decide) (by kernel_rfl) hS (fun K hK => ?_)
    simp only [Mix.pick]
    repeat (go_big_quiet_step (fail))
    refine wpQuiet_nil (hK _ ?_)
    clear hK K
    refine MixH.take 11 3 _ (.int .i64 (E : Int)) rfl (by kernel_rfl) (by kernel_rfl) (by kernel_rfl) (by kernel_rfl) (yields_int (.tmp 5) rfl ⟨R, 3, none⟩ _ rfl rfl (fun A hA => hA)) hS (fun a' ha => ?_)
    simp only [Act.put, List.setIfInBounds_toArray, List.set_cons_succ, List.set_cons_zero] at ha
    subst ha
    refine MixH.takes [false, false, false, false, true, true, true, false, true, true, true] 5 (by kernel_rfl) (by kernel_rfl) (by decide) (by kernel_rfl) hS (fun K hK => ?_)
    simp only [Mix.pick]
    repeat (go_big_quiet_step (fail))
    refine wpQuiet_nil (hK _ ?_)
    clear hK K
    refine MixH.take 4 11 _ (.int .i64 (E : Int)) rfl (by kernel_rfl) (by kernel_rfl) (by kernel_rfl) (by kernel_rfl) (yields_int (.tmp 13) rfl ⟨R, 3, none⟩ _ rfl rfl (fun A hA => hA)) hS (fun a' ha => ?_)
    simp only [Act.put, List.setIfInBounds_toArray, List.set_cons_succ, List.set_cons_zero] at ha
    subst ha
    refine MixH.one [false, false, false, false, false, false, false, true] 3 7 _ rfl rfl (by kernel_rfl) (by kernel_rfl) (fun K hK => ?_)
    simp only [Mix.pick]
    go_wp2_with fail
    refine Calls.mono (QH.out _ HA.out) ?_
    rintro e wB ⟨rfl, rfl⟩
    go_wp2
    refine ⟨rfl, hK _ _ hS ?_⟩
    clear hK K
    refine MixH.takes [false, false, false, false, false, false, false, false, false, false, false, false, true, true, true] 0 (by kernel_rfl) (by kernel_rfl) (by decide) (by kernel_rfl) hS (fun K hK => ?_)
    simp only [Mix.pick]
    repeat (go_big_quiet_step (fail))
    refine wpQuiet_nil (hK _ ?_)
    clear hK K
    refine MixH.done (by kernel_rfl) ?_
    clear hS
    go_wp2
    go_ret
    exact ⟨rfl, HBW.out⟩
  · rw [eE_neg k] at c3
    rw [decide_eq_false (fun q => k q.1)]
    clear k QH
    go_enter Try.func41, Try.ntmps41
    go_upto_region 1 with fail
    refine MixH.start (fun A => A.cell? ⟨R, 3, none⟩ = some (.int .i64 (-1))) (by kernel_rfl) ?_
    obtain ⟨wA, hwA⟩ : ∃ wA, wA = w.drew := ⟨_, rfl⟩
    have hS : wA.cell? ⟨R, 3, none⟩ = some (.int .i64 (-1)) := by rw [hwA]; exact c3
    have hb : Below w.heap.size w w.drew := drew_below (Below.refl _ _)
    have HBW : Hid (Below w.heap.size w wA) := by rw [hwA]; exact hb
    rw [← hwA]
    clear hwA c3 hb H
    refine MixH.takes [true, true, true] 12 (by kernel_rfl) (by kernel_rfl) (by decide) (by kernel_rfl) hS (fun K hK => ?_)
    simp only [Mix.pick]
    repeat (go_big_quiet_step (fail))
    refine wpQuiet_nil (hK _ ?_)
    clear hK K
    refine MixH.take 11 3 _ (.int .i64 (-1)) rfl (by kernel_rfl) (by kernel_rfl) (by kernel_rfl) (by kernel_rfl) (yields_int (.tmp 5) rfl ⟨R, 3, none⟩ _ rfl rfl (fun A hA => hA)) hS (fun a' ha => ?_)
    simp only [Act.put, List.setIfInBounds_toArray, List.set_cons_succ, List.set_cons_zero] at ha
    subst ha
    refine MixH.takes [false, false, false, false, true, true, true, false, true, true, true] 5 (by kernel_rfl) (by kernel_rfl) (by decide) (by kernel_rfl) hS (fun K hK => ?_)
    simp only [Mix.pick]
    repeat (go_big_quiet_step (fail))
    refine wpQuiet_nil (hK _ ?_)
    clear hK K
    refine MixH.take 4 11 _ (undef) rfl (by kernel_rfl) (by kernel_rfl) (by kernel_rfl) (by kernel_rfl) (.inr ⟨rfl, rfl⟩) hS (fun a' ha => ?_)
    simp only [Act.put, List.setIfInBounds_toArray, List.set_cons_succ, List.set_cons_zero] at ha
    subst ha
    refine MixH.take 3 7 _ (undef) rfl (by kernel_rfl) (by kernel_rfl) (by kernel_rfl) (by kernel_rfl) (.inr ⟨rfl, rfl⟩) hS (fun a' ha => ?_)
    simp only [Act.put, List.setIfInBounds_toArray, List.set_cons_succ, List.set_cons_zero] at ha
    subst ha
    refine MixH.takes [false, false, false, false, false, false, false, false, false, false, false, false, true, true, true] 0 (by kernel_rfl) (by kernel_rfl) (by decide) (by kernel_rfl) hS (fun K hK => ?_)
    simp only [Mix.pick]
    repeat (go_big_quiet_step (fail))
    refine wpQuiet_nil (hK _ ?_)
    clear hK K
    refine MixH.done (by kernel_rfl) ?_
    clear hS
    go_wp2
    go_ret
    exact ⟨rfl, HBW.out⟩
set_option maxRecDepth 100000 in
set_option maxHeartbeats 3200000 in
theorem bytesR_any (w : World) (R : Nat) (s : HS) (v : RV) (h : RAt w R s v) (hi : Inv s) (wh : Bool) (hw : wh = decide (0 < s.en ∧ s.gp = [])) :
    Calls Try.prog 28 #[.pointer (some ⟨R, 0, none⟩)] w fun r w' => ∃ ua n uc, r = .returned (.tuple #[.slice ua n uc, .bool wh]) ∧ (bz s wh).length = n ∧ w'.ownsRow w.heap.size 5 1 (.slice ua n uc) n ((toI (bz s wh)).map (Value.int .u8)) ∧ Below w.heap.size w w' := by
  have QW : Hid _ := wholeR_any w R s v h hi
  rw [← hw] at QW
  clear hw
  cases wh with
  | false =>
    clear h
    go_enter Try.func28, Try.ntmps28
    go_wp2_with fail
    refine Calls.mono QW.out ?_
    rintro e w1 ⟨rfl, hb1⟩
    have HB1 : Hid _ := hb1
    clear QW hb1
    go_wp2
    go_ret2
    exact ⟨none, 0, 0, rfl, rfl, World.ownsRow_nil _ _ _ _, HB1.out⟩
  | true =>
    obtain ⟨i0, hi0, hz0, hz1, hz2⟩ := info_parts Try.infoByte
    have HI : Hid (s.bs.length ≤ 65535) := by have h1 := hi.bl; have h2 := (HS.bd_le hi).1; show _ ≤ _; omega
    have H : Hid (RAt w R s v) := h
    clear hi h
    go_enter Try.func28, Try.ntmps28
    go_wp2_with fail
    refine Calls.mono QW.out ?_
    rintro e w1 ⟨rfl, hb1⟩
    have H1 : Hid (RAt w1 R s v) := H.out.below hb1
    have HB1 : Hid _ := hb1
    obtain ⟨ba, bc, hbv, hsg, hsl, _, _⟩ := owns_seg (RM.ob H1.out) (k := .u8)
    have c2 := RM.c2 H1.out
    rw [hbv] at c2
    obtain ⟨L, hL⟩ : ∃ L, L = s.bs.length := ⟨_, rfl⟩
    rw [← hL] at c2
    have hL5 : L ≤ 65535 := by rw [hL]; exact HI.out
    have hl2 : (toI s.bs).length = L := by rw [toI_len]; exact hL.symm
    have HLL : Hid (L = s.bs.length) := hL
    clear hbv hL hb1 QW hsl H H1
    go_wp2_with (first | (at_builtin; refine wpList_append_seg rfl (.tmp 8) (.tmp 12) 22 rfl w1.heap.size 5 i0 _ 1 Try.underlying22 hi0 hz0 hz1 hz2 rfl (.slice none 0 0) 0 [] rfl (World.ownsRow_nil _ _ _ _) .u8 ba L _ (toI s.bs) rfl hl2 hsg (by unfold maxLen; omega) (by omega) (Nat.le_refl _) ?_))
    intro u w2 ho2 hg2
    have hb2 : Below w1.heap.size w1 w2 := (Below.refl _ _).grown hg2 (Nat.le_refl _) (by intro k hk; simp [Value.ownBlock] at hk)
    have HB2 : Hid (Below w.heap.size w w2) := HB1.out.trans (hb2.mono HB1.out.size)
    obtain ⟨ua, uc, rfl⟩ := owns_shape ho2
    have h3 : w2.ownsRow w1.heap.size 5 1 (.slice ua L uc) L ((toI s.bs).map (Value.int .u8)) := by simpa using ho2
    have HO : Hid (w2.ownsRow w1.heap.size 5 1 (.slice ua L uc) L ((toI s.bs).map (Value.int .u8))) := h3
    clear h3
    clear hg2 hsg hb2 ho2 c2
    go_wp2
    go_ret2
    refine ⟨ua, L, uc, by simp, HLL.out.symm, ?_, HB2.out⟩
    exact owns_mono HO.out HB1.out.size
theorem newR_no (w : World) (m : Int) (hm : ¬ (1 ≤ m ∧ m ≤ 65535)) :
    Calls Try.prog 38 #[.int .i64 m] w fun r w' => r = .returned (.tuple #[.pointer none, .int .i64 1]) ∧ w = w' := by
  by_cases h1 : m < 1
  · clear hm
    go_enter Try.func38, Try.ntmps38
    go_wp2
    go_ret2
    exact ⟨rfl, rfl⟩
  · have h2 : (65535 : Int) < m := by omega
    clear hm
    go_enter Try.func38, Try.ntmps38
    go_wp2
    go_ret2
    exact ⟨rfl, rfl⟩
theorem newR_yes (w : World) (m : Nat) (h1 : 1 ≤ m) (h2 : m ≤ 65535) :
    Calls Try.prog 38 #[.int .i64 (m : Int)] w fun r w' => ∃ R v, r = .returned (.tuple #[.pointer (some ⟨R, 0, none⟩), .int .i64 0]) ∧ RAt w' R (nw m) v ∧ (∀ x, RB R v x → w.heap.size ≤ x) ∧ Below w.heap.size w w' := by
  have d1 : ¬ (m : Int) < 1 := by omega
  have d2 : ¬ (65535 : Int) < (m : Int) := by omega
  have HF : Hid (∀ w1 : World, w1 = w.alloc (.cells #[.int .i64 (m : Int), .slice none 0 0, .slice none 0 0, .int .i64 (-1), .slice none 0 0] 91) → RAt w1 w.heap.size (nw m) ⟨.slice none 0 0, .slice none 0 0, .slice none 0 0⟩ ∧ Below w.heap.size w w1) := by
    intro w1 e1
    have hB : w1.heap[w.heap.size]? = some (.cells #[.int .i64 (m : Int), .slice none 0 0, .slice none 0 0, .int .i64 (-1), .slice none 0 0] 91 (0, 0)) := by rw [e1]; exact heap_alloc_new _ _
    have hcell : ∀ j, w1.cell? ⟨w.heap.size, j, none⟩ = (#[.int .i64 (m : Int), .slice none 0 0, .slice none 0 0, .int .i64 (-1), .slice none 0 0] : Array Value)[j]? := by
      intro j; simp [World.cell?, hB]
    refine ⟨⟨hcell 0, hcell 1, hcell 2, hcell 3, hcell 4, ?_, World.ownsRow_nil _ _ _ _, World.ownsRow_nil _ _ _ _, World.ownsRow_nil _ _ _ _, ?_, ?_, ?_, ?_, ?_, ?_⟩, by rw [e1]; exact (Below.refl _ _).alloc (Nat.le_refl _) _⟩
    · intro j; simp [World.frozen?, hB]
    · simp [Value.ownBlock]
    · simp [Value.ownBlock]
    · simp [Value.ownBlock]
    · intro x hx; simp [Value.ownBlock] at hx
    · intro x hx; simp [Value.ownBlock] at hx
    · intro x hx; simp [Value.ownBlock] at hx
  clear h1 h2
  go_enter Try.func38, Try.ntmps38
  go_wp2
  go_ret2
  obtain ⟨k1, k2⟩ := HF.out _ rfl
  refine ⟨w.heap.size, ?_, ⟨.slice none 0 0, .slice none 0 0, .slice none 0 0⟩, ?_, ?_, ?_⟩
  · simp
  · simpa using k1
  · rintro x (rfl | hx | hx | hx)
    · exact Nat.le_refl _
    · simp [Value.ownBlock] at hx
    · simp [Value.ownBlock] at hx
    · simp [Value.ownBlock] at hx
  · simpa using k2
end H11
end Go.Proofs.Ytcoaghcmbhogjaa
namespace Go.Proofs.Ytcoaghcmbhogjaa
namespace H11

def lenI (s : HS) (o n : Nat) : Nat := max s.bs.length (o + n)
def hI (s : HS) (o n i : Nat) : List Bool := (List.range (lenI s o n)).map (fun k => !inB s.gp k || decide (o ≤ k ∧ k < o + i))
def dI (s : HS) (o : Nat) (d : List Nat) (i : Nat) : List Nat := (List.range (lenI s o d.length)).map (fun k => if (o ≤ k ∧ k < o + i) ∧ inB s.gp k = true then d.getD (k - o) 0 else s.bs.getD k 0)
def smI (s : HS) (o : Nat) (d : List Nat) : Nat → Bool
  | 0 => true
  | i + 1 => smI s o d i && (inB s.gp (o + i) || s.bs.getD (o + i) 0 == d.getD i 0)
theorem hI_len (s : HS) (o n i : Nat) : (hI s o n i).length = lenI s o n := by simp [hI]
theorem dI_len (s : HS) (o : Nat) (d : List Nat) (i : Nat) : (dI s o d i).length = lenI s o d.length := by simp [dI]
theorem Ok.bd {s : HS} {o n : Nat} {more : Bool} (hok : Ok s o n more) : o + n ≤ s.bd := by
  have h1 := hok.fit
  unfold HS.bd
  by_cases k : 0 < s.en
  · rw [if_pos k]
    cases more with
    | true => exact hok.a k rfl
    | false => exact Nat.le_of_eq (hok.b k rfl)
  · rw [if_neg k]; exact h1
theorem lenI_bd {s : HS} (hi : Inv s) {o n : Nat} {more : Bool} (hok : Ok s o n more) : lenI s o n ≤ s.bd := by
  have := hok.bd
  have := hi.bl
  unfold lenI
  omega
theorem hI_get (s : HS) (o n i k : Nat) (h : k < (hI s o n i).length) : (hI s o n i)[k] = (!inB s.gp k || decide (o ≤ k ∧ k < o + i)) := by simp only [hI, List.getElem_map, List.getElem_range]
theorem dI_get (s : HS) (o : Nat) (d : List Nat) (i k : Nat) (h : k < (dI s o d i).length) : (dI s o d i)[k] = (if (o ≤ k ∧ k < o + i) ∧ inB s.gp k = true then d.getD (k - o) 0 else s.bs.getD k 0) := by simp only [dI, List.getElem_map, List.getElem_range]
/-- the rows, lengthened to the piece's end -/
theorem hI_zero {s : HS} (hi : Inv s) {o n : Nat} {more : Bool} (hok : Ok s o n more) : hsL s ++ List.replicate (lenI s o n - s.bs.length) false = hI s o n 0 := by
  have hb := lenI_bd hi hok
  apply List.ext_getElem
  · rw [List.length_append, hsL_len, List.length_replicate, hI_len]; unfold lenI; omega
  · intro k h1 h2
    rw [hI_get]
    rw [hI_len] at h2
    rw [decide_eq_false (by omega), Bool.or_false]
    by_cases q : k < s.bs.length
    · rw [List.getElem_append_left (by rw [hsL_len]; exact q)]
      simp [hsL]
    · rw [List.getElem_append_right (by rw [hsL_len]; omega), List.getElem_replicate, inB_iff.2 (hi.hd k (by omega) (by omega))]
      rfl
theorem dI_zero (s : HS) (o : Nat) (d : List Nat) : s.bs ++ List.replicate (lenI s o d.length - s.bs.length) 0 = dI s o d 0 := by
  apply List.ext_getElem
  · rw [List.length_append, List.length_replicate, dI_len]; unfold lenI; omega
  · intro k h1 h2
    rw [dI_get, if_neg (by omega)]
    rw [dI_len] at h2
    by_cases q : k < s.bs.length
    · rw [List.getElem_append_left q]; simp [List.getD, q]
    · rw [List.getElem_append_right (by omega), List.getElem_replicate]; simp [List.getD, q]
theorem map_range_set {α : Type} (f g : Nat → α) (n j : Nat) (x : α) (hx : g j = x) (h : ∀ k, k < n → k ≠ j → f k = g k) : ((List.range n).map f).set j x = (List.range n).map g := by
  apply List.ext_getElem
  · simp
  · intro k h1 h2
    simp only [List.length_set, List.length_map, List.length_range] at h1
    rw [List.getElem_set]
    simp only [List.getElem_map, List.getElem_range]
    split
    · rename_i e; rw [← e, hx]
    · rename_i e; exact h k h1 (fun q => e q.symm)
theorem map_range_eq {α : Type} (f g : Nat → α) (n : Nat) (h : ∀ k, k < n → f k = g k) : (List.range n).map f = (List.range n).map g := List.map_congr_left (fun k hk => h k (List.mem_range.1 hk))
theorem hI_held {s : HS} {o n i : Nat} (hq : inB s.gp (o + i) = false) : hI s o n (i + 1) = hI s o n i := by
  refine map_range_eq _ _ _ (fun k _ => ?_)
  by_cases e : k = o + i
  · subst e; rw [hq]; rfl
  · congr 1; simp only [decide_eq_decide]; omega
theorem dI_held {s : HS} {o i : Nat} {d : List Nat} (hq : inB s.gp (o + i) = false) : dI s o d (i + 1) = dI s o d i := by
  refine map_range_eq _ _ _ (fun k _ => ?_)
  by_cases e : k = o + i
  · subst e; rw [if_neg (by simp [hq]), if_neg (by simp [hq])]
  · have : (o ≤ k ∧ k < o + (i + 1)) ↔ (o ≤ k ∧ k < o + i) := by omega
    simp only [this]
theorem hI_new {s : HS} {o n i : Nat} : (hI s o n i).set (o + i) true = hI s o n (i + 1) := by
  refine map_range_set _ _ _ _ _ ?_ (fun k _ e => ?_)
  · rw [decide_eq_true (by omega), Bool.or_true]
  · congr 1; simp only [decide_eq_decide]; omega
theorem dI_new {s : HS} {o i : Nat} {d : List Nat} (hq : inB s.gp (o + i) = true) : (dI s o d i).set (o + i) (d.getD i 0) = dI s o d (i + 1) := by
  refine map_range_set _ _ _ _ _ ?_ (fun k _ e => ?_)
  · rw [if_pos ⟨by omega, hq⟩, Nat.add_sub_cancel_left]
  · have : (o ≤ k ∧ k < o + (i + 1)) ↔ (o ≤ k ∧ k < o + i) := by omega
    simp only [this]
theorem hI_at {s : HS} {o n i : Nat} (hi : i < n) : (hI s o n i)[o + i]? = some (!inB s.gp (o + i)) := by
  unfold hI
  rw [List.getElem?_map, List.getElem?_range (by unfold lenI; omega)]
  simp
theorem dI_at {s : HS} {o i : Nat} {d : List Nat} (hi : i < d.length) : (dI s o d i)[o + i]? = some (s.bs.getD (o + i) 0) := by
  unfold dI
  rw [List.getElem?_map, List.getElem?_range (by unfold lenI; omega)]
  simp only [Option.map_some]
  rw [if_neg (by omega)]
/-- what is left at the end -/
theorem hI_all {s : HS} (h : Inv s) {o : Nat} {d : List Nat} {more : Bool} (hok : Ok s o d.length more) (h256 : ∀ x, x ∈ d → x < 256) : hI s o d.length d.length = hsL (pt s o d more) := by
  obtain ⟨p1, p2, _⟩ := pt_inv h hok h256
  have hl : (pt s o d more).bs.length = lenI s o d.length := pt_bs_len s o d more
  unfold hsL hI
  rw [hl]
  refine map_range_eq _ _ _ (fun k hk => ?_)
  have hb := p1.bl
  rw [hl] at hb
  have h2 := p2 k (by omega)
  by_cases e : o ≤ k ∧ k < o + d.length
  · rw [decide_eq_true e, Bool.or_true, inB_not.2 (fun q => (h2.1 q).2 e)]; rfl
  · rw [decide_eq_false e, Bool.or_false, inB_eq (gs := s.gp) (gs' := (pt s o d more).gp) (i := k) (j := k) ⟨fun q => h2.2 ⟨q, e⟩, fun q => (h2.1 q).1⟩]
theorem pt_get {s : HS} (h : Inv s) (o : Nat) (d : List Nat) (more : Bool) (i : Nat) : (pt s o d more).bs.getD i 0 = if (o ≤ i ∧ i < o + d.length) ∧ inB s.gp i = true then d.getD (i - o) 0 else s.bs.getD i 0 := by
  have h1 : (pt s o d more).bs.getD i 0 = _ := fB_get (i := i) (o := o) (d := d) (b := rB s.bs (o + d.length)) h.ris (by rw [rB_len]; omega)
  rw [h1]
  have h2 : (rB s.bs (o + d.length)).getD i 0 = s.bs.getD i 0 := by
    unfold rB
    simp only [List.getD, List.getElem?_append]
    by_cases q : i < s.bs.length
    · rw [if_pos q]
    · rw [if_neg q, List.getElem?_eq_none (by omega : s.bs.length ≤ i), List.getElem?_replicate]
      split <;> rfl
  rw [h2]
  by_cases q : (o ≤ i ∧ i < o + d.length) ∧ inB s.gp i = true
  · rw [if_pos q, if_pos ⟨q.1, inB_iff.1 q.2⟩]
  · rw [if_neg q, if_neg (fun k => q ⟨k.1, inB_iff.2 k.2⟩)]
theorem dI_all {s : HS} (h : Inv s) (o : Nat) (d : List Nat) (more : Bool) : dI s o d d.length = (pt s o d more).bs := by
  have hl : (pt s o d more).bs.length = lenI s o d.length := pt_bs_len s o d more
  apply List.ext_getElem
  · rw [dI_len, hl]
  · intro k h1 h2
    have h3 := pt_get h o d more k
    simp only [List.getD, List.getElem?_eq_getElem h2, Option.getD_some] at h3
    rw [h3, dI_get]
    rfl
theorem smI_iff {s : HS} {o : Nat} {d : List Nat} : ∀ {i : Nat}, smI s o d i = true ↔ ∀ k, k < i → inB s.gp (o + k) = true ∨ s.bs.getD (o + k) 0 = d.getD k 0
  | 0 => by simp [smI]
  | i + 1 => by
    unfold smI
    rw [Bool.and_eq_true, smI_iff (i := i), Bool.or_eq_true, beq_iff_eq]
    constructor
    · rintro ⟨h1, h2⟩ k hk
      by_cases e : k = i
      · subst e; exact h2
      · exact h1 k (by omega)
    · intro h
      exact ⟨fun k hk => h k (by omega), h i (by omega)⟩
theorem smI_all {s : HS} (h : Inv s) (o : Nat) (d : List Nat) (more : Bool) : smI s o d d.length = decide (d = ((pt s o d more).bs.drop o).take d.length) := by
  have hl : (pt s o d more).bs.length = lenI s o d.length := pt_bs_len s o d more
  have hk : o + d.length ≤ (pt s o d more).bs.length := by rw [hl]; unfold lenI; omega
  have key : (d = ((pt s o d more).bs.drop o).take d.length) ↔ ∀ k, k < d.length → (pt s o d more).bs.getD (o + k) 0 = d.getD k 0 := by
    constructor
    · intro e k hkd
      have e2 : d.getD k 0 = (((pt s o d more).bs.drop o).take d.length).getD k 0 := congrArg (fun l => l.getD k 0) e
      rw [e2]
      simp only [List.getD, List.getElem?_take, if_pos hkd, List.getElem?_drop]
    · intro e
      apply List.ext_getElem
      · rw [List.length_take, List.length_drop]; omega
      · intro k h1 h2
        have := e k h1
        simp only [List.getD, List.getElem?_eq_getElem h1, List.getElem?_eq_getElem (show o + k < (pt s o d more).bs.length by omega), Option.getD_some] at this
        rw [List.getElem_take, List.getElem_drop, this]
  rw [Bool.eq_iff_iff, smI_iff, decide_eq_true_iff, key]
  constructor
  · intro q k hkd
    rw [pt_get h]
    by_cases e : inB s.gp (o + k) = true
    · rw [if_pos ⟨by omega, e⟩, Nat.add_sub_cancel_left]
    · rw [if_neg (fun z => e z.2)]
      rcases q k hkd with z | z
      · exact absurd z e
      · exact z
  · intro q k hkd
    by_cases e : inB s.gp (o + k) = true
    · exact .inl e
    · have := q k hkd
      rw [pt_get h, if_neg (fun z => e z.2)] at this
      exact .inr this
end H11
end Go.Proofs.Ytcoaghcmbhogjaa
namespace Go.Proofs.Ytcoaghcmbhogjaa
open Go.RowKit Go.Maps
namespace H11
theorem Try.infoBoolR : (Try.prog.info? 4).map (fun i => (i.zero, i.size, i.bytes)) = some (some (.bool false), 1, 1) := by kernel_rfl
theorem Try.infoPieceR : (Try.prog.info? 93).map (fun i => (i.zero, i.size, i.bytes)) = some (some (.agg #[.int .i64 0, .int .i64 0, .bool false]), 3, 24) := by kernel_rfl
theorem one_newR (w : World) (x : Value) (t : TypeId) : ∀ j u, ([x] : List Value)[j]? = some u → (w.alloc (.cells #[x] t)).cell? ((⟨w.heap.size, 0, none⟩ : Addr).add j) = some u := by
  intro j u hu
  rw [Addr.add_lit, Nat.zero_add, World.cell?_alloc_at _ _ _ _ rfl]
  simpa using hu
theorem three_newR (w : World) (x y z : Value) (t : TypeId) : ∀ j u, ([x, y, z] : List Value)[j]? = some u → (w.alloc (.cells #[x, y, z] t)).cell? ((⟨w.heap.size, 0, none⟩ : Addr).add j) = some u := by
  intro j u hu
  rw [Addr.add_lit, Nat.zero_add, World.cell?_alloc_at _ _ _ _ rfl]
  simpa using hu
theorem ps_row {w : World} {base n c : Nat} {ua : Option Addr} {L : List (Nat × Nat × Bool)} (h : w.ownsRow base 93 3 (.slice ua n c) L.length (psC L)) (hn : n = L.length) (j : Nat) (hj : j < L.length) : ∃ g, ua = some ⟨g, 0, none⟩ ∧ w.cell? ⟨g, j * 3, none⟩ = some (.int .i64 (L[j].1 : Int)) ∧ w.cell? ⟨g, j * 3 + 1, none⟩ = some (.int .i64 (L[j].2.1 : Int)) ∧ w.cell? ⟨g, j * 3 + 2, none⟩ = some (.bool L[j].2.2) := by
  subst hn
  rcases h.2 with ⟨_, e2⟩ | ⟨g, cap, cur, e1, _⟩
  · omega
  · simp only [Value.slice.injEq, true_and] at e1
    obtain ⟨rfl, rfl⟩ := e1
    have h0 := psC_at L j 0 hj (by omega)
    have h1 := psC_at L j 1 hj (by omega)
    have h2 := psC_at L j 2 hj (by omega)
    have c0 := h.cells (g := g) rfl (j * 3 + 0) _ h0
    have c1 := h.cells (g := g) rfl (j * 3 + 1) _ h1
    have c2 := h.cells (g := g) rfl (j * 3 + 2) _ h2
    rw [Addr.add_lit] at c0 c1 c2
    simp only [Nat.zero_add, Nat.add_zero] at c0 c1 c2
    exact ⟨g, rfl, c0, c1, c2⟩
theorem pc3R (w : World) (a b c : Value) : (w.alloc (.cells #[a, b, c] 93)).cell? ⟨w.heap.size, 0, none⟩ = some a ∧ (w.alloc (.cells #[a, b, c] 93)).cell? ⟨w.heap.size, 1, none⟩ = some b ∧ (w.alloc (.cells #[a, b, c] 93)).cell? ⟨w.heap.size, 2, none⟩ = some c := by
  refine ⟨by rw [World.cell?_alloc_at _ _ _ _ rfl]; rfl, by rw [World.cell?_alloc_at _ _ _ _ rfl]; rfl, by rw [World.cell?_alloc_at _ _ _ _ rfl]; rfl⟩
theorem mem_take (L : List (Nat × Nat × Bool)) (j : Nat) (hj : j < L.length) (x : Nat × Nat × Bool) : decide (x ∈ L.take (j + 1)) = (decide (x ∈ L.take j) || decide (x = L[j])) := by
  rw [List.take_succ_eq_append_getElem hj]
  by_cases h1 : x ∈ L.take j
  · rw [decide_eq_true h1, Bool.true_or, decide_eq_true (List.mem_append.2 (.inl h1))]
  · rw [decide_eq_false h1, Bool.false_or]
    by_cases h2 : x = L[j]
    · rw [decide_eq_true h2, decide_eq_true (List.mem_append.2 (.inr (by rw [h2]; simp)))]
    · rw [decide_eq_false h2, decide_eq_false]
      intro q
      rcases List.mem_append.1 q with k | k
      · exact h1 k
      · simp only [List.mem_singleton] at k; exact h2 k
theorem eE_pt_true (s : HS) (o : Nat) (d : List Nat) : eE (pt s o d true) = eE s := rfl
theorem eE_pt_false (s : HS) (o : Nat) (d : List Nat) (h : 1 ≤ d.length) : eE (pt s o d false) = ((o + d.length : Nat) : Int) := by
  have e : (pt s o d false).en = o + d.length := rfl
  unfold eE
  rw [e, if_pos (by omega)]
/-- how long the held row is -/
def lnAt (w : World) (R : Nat) : Nat := match w.cell? ⟨R, 1, none⟩ with | some (.slice _ n _) => n | _ => 0
theorem RM.ln {w : World} {R mx : Nat} {hs : List Bool} {da : List Nat} {en : Int} {ps : List (Nat × Nat × Bool)} {v : RV} (h : RM w R mx hs da en ps v) : lnAt w R = hs.length := by
  obtain ⟨a, c, hv⟩ := owns_shape h.ho
  unfold lnAt
  rw [h.c1, hv]

structure WA (w : World) (R : Nat) (v : RV) (B : Nat) (wi : World) (mx : Nat) (hs : List Bool) (da : List Nat) (en : Int) (ps : List (Nat × Nat × Bool)) (vi : RV) : Prop where
  rm : RM wi R mx hs da en ps vi
  kk : ∀ x, RB R vi x → RB R v x ∨ B + 1 ≤ x
  ch : Ch (RB R v) w wi
  ft : FtAt wi B ftz
  wB : w.heap.size = B
  vB : ∀ x, RB R v x → x < B
section
variable {w : World} {R : Nat} {v : RV} {B : Nat} {wi : World} {mx : Nat} {hs : List Bool} {da : List Nat} {en : Int} {ps : List (Nat × Nat × Bool)} {vi : RV} (h : WA w R v B wi mx hs da en ps vi)
include h
theorem WA.nB : ∀ x, RB R vi x → x ≠ B := by
  intro x hx e
  rcases h.kk x hx with k | k
  · have := h.vB x k; omega
  · omega
theorem WA.moved {w' : World} {hs' : List Bool} {da' : List Nat} {en' : Int} {ps' : List (Nat × Nat × Bool)} (m : RMd wi R vi w' mx hs' da' en' ps') : ∃ v', WA w R v B w' mx hs' da' en' ps' v' ∧ (∀ x, RB R v' x → RB R vi x ∨ wi.heap.size ≤ x) ∧ Ch (RB R vi) wi w' := by
  obtain ⟨v', m1, m2, m3⟩ := m
  have hsz := h.ft.lt
  refine ⟨v', ⟨m1, ?_, h.ch.trans m3 ?_, h.ft.ch m3 (fun k => h.nB B k rfl), h.wB, h.vB⟩, m2, m3⟩
  · intro x hx
    rcases m2 x hx with k | k
    · exact h.kk x k
    · exact .inr (by omega)
  · intro x hlt hx
    rcases h.kk x hx with k | k
    · exact k
    · have := h.wB; omega
theorem WA.below {w' : World} (hb : Below wi.heap.size wi w') : WA w R v B w' mx hs da en ps vi :=
  ⟨h.rm.below hb, h.kk, h.ch.trans (Ch.ofBelow (S := fun _ => False) hb) (fun _ _ e => e.elim), h.ft.below hb, h.wB, h.vB⟩
end
structure WB (w : World) (R : Nat) (v : RV) (B F : Nat) (C : Array Value) (wi : World) (mx : Nat) (hs : List Bool) (da : List Nat) (en : Int) (ps : List (Nat × Nat × Bool)) (vi : RV) : Prop where
  wa : WA w R v B wi mx hs da en ps vi
  fx : FtAt wi F C
  fo : B + 1 ≤ F
  nf : ∀ x, RB R vi x → x ≠ F
section
variable {w : World} {R : Nat} {v : RV} {B F : Nat} {C : Array Value} {wi : World} {mx : Nat} {hs : List Bool} {da : List Nat} {en : Int} {ps : List (Nat × Nat × Bool)} {vi : RV} (h : WB w R v B F C wi mx hs da en ps vi)
include h
theorem WB.below {w' : World} (hb : Below wi.heap.size wi w') : WB w R v B F C w' mx hs da en ps vi := ⟨h.wa.below hb, h.fx.below hb, h.fo, h.nf⟩
theorem WB.moved {w' : World} {hs' : List Bool} {da' : List Nat} {en' : Int} {ps' : List (Nat × Nat × Bool)} (m : RMd wi R vi w' mx hs' da' en' ps') : ∃ v', WB w R v B F C w' mx hs' da' en' ps' v' := by
  obtain ⟨v', m1, m2, m3⟩ := h.wa.moved m
  refine ⟨v', m1, h.fx.ch m3 (fun k => h.nf F k rfl), h.fo, ?_⟩
  intro x hx e
  rcases m2 x hx with k | k
  · exact h.nf x k e
  · have := h.fx.lt; omega
theorem WB.same {w' : World} {hs' : List Bool} {da' : List Nat} (m : RM w' R mx hs' da' en ps vi) (c : Ch (RB R vi) wi w') : WB w R v B F C w' mx hs' da' en ps vi := by
  refine ⟨⟨m, h.wa.kk, h.wa.ch.trans c ?_, h.wa.ft.ch c (fun k => h.wa.nB B k rfl), h.wa.wB, h.wa.vB⟩, h.fx.ch c (fun k => h.nf F k rfl), h.fo, h.nf⟩
  intro x hlt hx
  rcases h.wa.kk x hx with k | k
  · exact k
  · have := h.wa.wB; omega
theorem WB.box (i : Nat) (u : Value) : WB w R v B F (C.setIfInBounds i u) (wi.setCell ⟨F, i, none⟩ u) mx hs da en ps vi := by
  have c : Ch (fun q => q = F) wi (wi.setCell ⟨F, i, none⟩ u) := (Ch.refl _ wi).set _ _ rfl
  have hfo := h.fo
  refine ⟨⟨h.wa.rm.ch c (fun x hx e => h.nf x hx e), h.wa.kk, h.wa.ch.trans c ?_, h.wa.ft.ch c (fun e => by have e' : B = F := e; omega), h.wa.wB, h.wa.vB⟩, heap_setCell_same wi F i C _ u h.fx, hfo, h.nf⟩
  intro x hlt hx
  have e' : x = F := hx
  have := h.wa.wB
  omega
theorem WB.fin {w' : World} (k : Ch (fun q => q = B) wi w') : RMd w R v w' mx hs da en ps := by
  refine ⟨vi, h.wa.rm.ch k (fun x hx e => h.wa.nB x hx e), ?_, h.wa.ch.trans k ?_⟩
  · intro x hx
    rcases h.wa.kk x hx with q | q
    · exact .inl q
    · exact .inr (by have := h.wa.wB; omega)
  · intro x hlt e
    have e' : x = B := e
    have := h.wa.wB
    omega
end
end H11
end Go.Proofs.Ytcoaghcmbhogjaa
namespace Go.Proofs.Ytcoaghcmbhogjaa
open Go.RowKit Go.Maps
namespace H11
set_option maxRecDepth 100000 in
set_option maxHeartbeats 3200000 in
theorem putR_no (w : World) (R : Nat) (s : HS) (v : RV) (h : RAt w R s v) (hi : Inv s) (off : Int) (d : List Nat) (da : Option Addr) (c : Nat) (more : Bool) (hr : rf s off d.length more ≠ 0) :
    Calls Try.prog 26 #[.pointer (some ⟨R, 0, none⟩), .int .i64 off, .slice da d.length c, .bool more] w fun r w' => r = .returned (.tuple #[.agg ftz, .int .i64 (rf s off d.length more)]) ∧ Below w.heap.size w w' := by
  obtain ⟨n, hn⟩ : ∃ n, n = d.length := ⟨_, rfl⟩
  rw [← hn] at hr ⊢
  obtain ⟨B, hB⟩ : ∃ B, B = w.heap.size := ⟨_, rfl⟩
  obtain ⟨W, hW⟩ : ∃ W, W = w.alloc (.cells #[.int .i64 0, .int .i64 0, .bool false] 33) := ⟨_, rfl⟩
  have hb : Below w.heap.size w W := by rw [hW]; exact (Below.refl _ _).alloc (Nat.le_refl _) _
  have hFt : FtAt W B ftz := by rw [hW, hB]; exact FtAt_new _ _
  have HWW : Hid (w.alloc (.cells #[.int .i64 0, .int .i64 0, .bool false] 33) = W) := hW.symm
  have HBB : Hid (w.heap.size = B) := hB.symm
  obtain ⟨E, hE⟩ : ∃ E, E = rf s off n more := ⟨_, rfl⟩
  have QR : Hid (Calls Try.prog 44 #[.pointer (some ⟨R, 0, none⟩), .int .i64 off, .int .i64 (n : Int), .bool more] W fun e w' => e = .returned (.int .i64 E) ∧ W = w') := by
    rw [hE]
    exact refusedR_any W R s _ _ _ v (h.below hb) (hsL_len s) hi.m2 off n more
  rw [← hE] at hr ⊢
  have hE0 : (E != 0) = true := by rw [bne_iff_ne]; exact hr
  clear hn hW hB hE hr h hi
  go_enter Try.func26, Try.ntmps26
  go_upto_region 2 with fail
  (try simp only [World.size_alloc])
  rw [HWW.out, HBB.out]
  go_wp2_with fail
  refine Calls.mono QR.out ?_
  rintro e w2 ⟨rfl, rfl⟩
  have HBE : Hid (w.heap.size ≤ B) := by show _ ≤ _; rw [HBB.out]; exact Nat.le_refl _
  clear QR
  go_wp2_with (first | (refine wpList_store_Ft (.tmp 8) (.tmp 26) rfl rfl B ftz ftz rfl rfl (ft_one 0 0 false) rfl rfl hFt rfl ?_))
  intro w3 hFt3 k3
  have bel3 : Below w.heap.size w w3 := hb.trans (k3.below (fun q e => by have e' : q = B := e; have := HBE.out; omega) hb.size)
  have HF3 : Hid _ := hFt3
  clear k3 hFt3 hFt
  go_wp2
  (try simp only [Exit.inBlock, Exit.then])
  refine bodyPost_ret (results_ft rfl _ _ B ftz rfl rfl HF3.out) rfl ?_
  exact ⟨rfl, bel3⟩
set_option maxRecDepth 100000 in
set_option maxHeartbeats 12800000 in
theorem putR_yes (w : World) (R : Nat) (s : HS) (v : RV) (h : RAt w R s v) (hi : Inv s) (d : List Nat) (da : Option Addr) (c : Nat) (more : Bool) (h256 : ∀ x ∈ d, x < 256) (htk : s.tk.length ≤ 1000000) (hcn : d.length ≤ c) (hseg : Seg .u8 w da (toI d)) (hdn : ∀ x, da = some x → ¬ RB R v x.block) (o : Nat) (hok : Ok s o d.length more) (hr : rf s o d.length more = 0) :
    Calls Try.prog 26 #[.pointer (some ⟨R, 0, none⟩), .int .i64 (o : Int), .slice da d.length c, .bool more] w fun r w' => r = .returned (.tuple #[.agg #[.int .i64 (fN o (o + d.length) s.gp : Nat), .int .i64 ((d.length : Int) - (fN o (o + d.length) s.gp : Nat)), .bool (decide ((o, d.length, more) ∈ s.tk) && decide (d = ((pt s o d more).bs.drop o).take d.length))], .int .i64 0]) ∧ ∃ v', RAt w' R (pt s o d more) v' ∧ (∀ x, RB R v' x → RB R v x ∨ w.heap.size ≤ x) ∧ Ch (RB R v) w w' := by
  obtain ⟨i0, hi0, hz0, hz1, hz2⟩ := info_parts Try.infoBoolR
  obtain ⟨i1, hi1, hy0, hy1, hy2⟩ := info_parts Try.infoByte
  obtain ⟨s', hs'⟩ : ∃ s', s' = pt s o d more := ⟨_, rfl⟩
  obtain ⟨n, hn⟩ : ∃ n, n = d.length := ⟨_, rfl⟩
  have HNF : Hid (n = d.length ∧ fN o (o + d.length) s.gp = cnt (fun k => inB s.gp (o + k)) n ∧ smI s o d n = decide (d = (s'.bs.drop o).take d.length) ∧ hI s o d.length n = hsL s' ∧ dI s o d n = s'.bs ∧ s' = pt s o d more) := by
    refine ⟨hn, ?_, ?_, ?_, ?_, hs'⟩
    · rw [hn]; exact fN_cnt hi.ris d.length
    · rw [hn, hs']; exact smI_all hi o d more
    · rw [hn, hs']; exact hI_all hi hok h256
    · rw [hn, hs']; exact dI_all hi o d more
  have hon : o + n ≤ 65535 := by have h1 := hok.fit; have h2 := hi.m2; rw [← hn] at h1; omega
  obtain ⟨L, hL⟩ : ∃ L, L = lenI s o n := ⟨_, rfl⟩
  have hL5 : L ≤ 65535 := by
    rw [hL]
    have h1 := lenI_bd hi (hn ▸ hok)
    have h2 := (HS.bd_le hi).1
    omega
  obtain ⟨b0, hb0⟩ : ∃ b0, b0 = s.bs.length := ⟨_, rfl⟩
  have hLb : L = max b0 (o + n) := by rw [hL, hb0]; rfl
  have HZ : Hid (hsL s ++ List.replicate (L - b0) false = hI s o d.length 0 ∧ s.bs ++ List.replicate (L - b0) 0 = dI s o d 0 ∧ b0 = s.bs.length ∧ L = lenI s o n) := by
    refine ⟨?_, ?_, hb0, hL⟩
    · rw [hL, hb0, hn]; exact hI_zero hi hok
    · rw [hL, hb0, hn]; exact dI_zero s o d
  have htk6 : s.tk.length ≤ 1000000 := htk
  obtain ⟨B, hB⟩ : ∃ B, B = w.heap.size := ⟨_, rfl⟩
  obtain ⟨W, hW⟩ : ∃ W, W = w.alloc (.cells #[.int .i64 0, .int .i64 0, .bool false] 33) := ⟨_, rfl⟩
  have hb : Below w.heap.size w W := by rw [hW]; exact (Below.refl _ _).alloc (Nat.le_refl _) _
  have HA : Hid (∃ v0, WA w R v B W s.mx (hsL s ++ List.replicate 0 false) (s.bs ++ List.replicate 0 0) (eE s) s.tk.reverse v0) := by
    refine ⟨v, ?_, fun x hx => .inl hx, Ch.ofBelow hb, by rw [hW, hB]; exact FtAt_new _ _, hB.symm, fun x hx => by rw [hB]; exact h.lt x hx⟩
    simp only [List.replicate_zero, List.append_nil]
    exact h.below hb
  have HSG : Hid (∀ A : World, Ch (RB R v) w A → Seg .u8 A da (toI d)) := fun A hA => hA.seg hseg (fun x _ hx => hdn x hx)
  have HXB : Hid (∀ x, 0 < d.length → da = some x → x.block < w.heap.size ∧ ¬ RB R v x.block) := by
    intro x hd hx
    refine ⟨?_, hdn x hx⟩
    obtain ⟨_, _, q1, q2⟩ := seg_at hseg 0 hd
    rw [hx] at q1
    simp only [Option.some.injEq] at q1
    rw [q1]
    exact World.block_lt_of_cell? w _ (q2 0 hd)
  have HWW : Hid (w.alloc (.cells #[.int .i64 0, .int .i64 0, .bool false] 33) = W) := hW.symm
  have HBB : Hid (w.heap.size = B) := hB.symm
  have QR : Hid (Calls Try.prog 44 #[.pointer (some ⟨R, 0, none⟩), .int .i64 (o : Int), .int .i64 (n : Int), .bool more] W fun e w' => e = .returned (.int .i64 0) ∧ W = w') := by
    rw [← hr, hn]
    exact refusedR_any W R s _ _ _ v (h.below hb) (hsL_len s) hi.m2 o d.length more
  have HRT : Hid (∀ b : Bool, b = (decide ((o, n, more) ∈ s.tk) && smI s o d n) → (.agg #[.int .i64 ((cnt (fun k => inB s.gp (o + k)) n : Nat) : Int), .int .i64 ((n : Int) - (cnt (fun k => inB s.gp (o + k)) n : Nat)), .bool b] : Value) = .agg #[.int .i64 (fN o (o + d.length) s.gp : Nat), .int .i64 ((d.length : Int) - (fN o (o + d.length) s.gp : Nat)), .bool (decide ((o, d.length, more) ∈ s.tk) && decide (d = ((pt s o d more).bs.drop o).take d.length))]) := by
    intro b hbb
    rw [hbb, HNF.out.2.2.1, HNF.out.2.1, hn, hs']
  have hne : n ≤ c := by rw [hn]; exact hcn
  have HOK1 : Hid (1 ≤ d.length) := hok.n1
  rw [← hs'] at HRT ⊢
  rw [← hn] at HRT ⊢
  have hw1 : IntKind.i64.wrap ((o : Int) + (n : Int)) = ((o + n : Nat) : Int) := by rw [IntKind.wrap_i64]; omega
  clear hn hs' hL hW hB hb0 hr hok hseg hdn hcn htk h hb hi
  go_enter Try.func26, Try.ntmps26
  go_upto_region 2 with fail
  (try simp only [World.size_alloc])
  rw [HWW.out, HBB.out]
  go_wp2_with fail
  refine Calls.mono QR.out ?_
  rintro e w2 ⟨rfl, rfl⟩
  clear QR HWW
  go_wp2
  go_loopw [] (fun wr => ∃ (t : Nat), t ≤ L - b0 ∧ Hid (∃ v0, WA w R v B wr s.mx (hsL s ++ List.replicate t false) (s.bs ++ List.replicate t 0) (eE s) s.tk.reverse v0)) (fun wr => L - lnAt wr R)
  case atStart => exact ⟨0, Nat.zero_le _, HA⟩
  case round =>
    obtain ⟨t, ht, HT⟩ := hrel
    clear HA
    obtain ⟨v0, h0⟩ := HT.out
    have HW0 : Hid (WA w R v B wr s.mx (hsL s ++ List.replicate t false) (s.bs ++ List.replicate t 0) (eE s) s.tk.reverse v0) := h0
    clear h0 HT
    obtain ⟨ha, hc, hv⟩ := owns_shape HW0.out.rm.ho
    have c1 := HW0.out.rm.c1
    have hlen : (hsL s ++ List.replicate t false).length = b0 + t := by rw [List.length_append, hsL_len, List.length_replicate, HZ.out.2.2.1]
    rw [hv, hlen] at c1
    have fz1 := HW0.out.rm.fz 1
    by_cases hge : L ≤ b0 + t
    · have hd0 : ¬ ((b0 + t : Nat) : Int) < ((o + n : Nat) : Int) := by omega
      have htL : t = L - b0 := by omega
      have HW1 : Hid (WA w R v B wr s.mx (hI s o d.length 0) (dI s o d 0) (eE s) s.tk.reverse v0) := by
        have := HW0.out
        rw [htL, HZ.out.1, HZ.out.2.1] at this
        exact this
      clear HW0 hge htL ht hv hlen
      as_aux_lemma =>
        go_upto_region 8 with fail
        go_upto_region 9 with fail
        obtain ⟨F, hF⟩ : ∃ F, F = wr.heap.size := ⟨_, rfl⟩
        obtain ⟨w4, hw4⟩ : ∃ w4, w4 = wr.alloc (.cells #[.int .i64 0, .int .i64 0, .bool false] 33) := ⟨_, rfl⟩
        have hb4 : Below wr.heap.size wr w4 := by rw [hw4]; exact (Below.refl _ _).alloc (Nat.le_refl _) _
        have H4 : Hid (WB w R v B F #[.int .i64 ((cnt (fun k => inB s.gp (o + k)) (0 : Nat) : Nat) : Int), .int .i64 (((0 : Nat) : Int) - (cnt (fun k => inB s.gp (o + k)) (0 : Nat) : Nat)), .bool false] w4 s.mx (hI s o d.length 0) (dI s o d 0) (eE s) s.tk.reverse v0) := by
          refine ⟨HW1.out.below hb4, ?_, ?_, ?_⟩
          · rw [hw4, hF]; exact FtAt_new _ _
          · have := HW1.out.ft.lt; omega
          · intro x hx e
            have := HW1.out.rm.lt x hx
            omega
        rw [← hF, ← hw4]
        clear hw4 hF hb4 HW1 c1 fz1
        go_wp2
        go_loopw [13, 14] (fun sv ix wr => ∃ i : Nat, i ≤ n ∧ ix = .int .i64 (i : Int) ∧ sv = .bool (smI s o d i) ∧ Hid (WB w R v B F #[.int .i64 ((cnt (fun k => inB s.gp (o + k)) i : Nat) : Int), .int .i64 ((i : Int) - (cnt (fun k => inB s.gp (o + k)) i : Nat)), .bool false] wr s.mx (hI s o d.length i) (dI s o d i) (eE s) s.tk.reverse v0)) (fun _ ix _ => n - (intOf ix).toNat)
        case atStart => exact ⟨0, Nat.zero_le _, rfl, rfl, H4⟩
        case round =>
          obtain ⟨i, hin, rfl, rfl, HI⟩ := hrel
          clear H4
          by_cases hge : n ≤ i
          · obtain rfl : i = n := by omega
            have d0 : ¬ (i : Int) < (i : Int) := by omega
            clear hge hin
            as_aux_lemma =>
              obtain ⟨N, hN⟩ : ∃ N, N = cnt (fun k => inB s.gp (o + k)) i := ⟨_, rfl⟩
              obtain ⟨SM, hSM⟩ : ∃ SM, SM = smI s o d i := ⟨_, rfl⟩
              have HI2 : Hid (WB w R v B F #[.int .i64 (N : Int), .int .i64 ((i : Int) - (N : Int)), .bool false] wr s.mx (hsL s') s'.bs (eE s) s.tk.reverse v0) := by
                have := HI.out
                rw [HNF.out.2.2.2.1, HNF.out.2.2.2.2.1, ← hN] at this
                exact this
              have HRT2 : Hid (∀ b : Bool, b = (decide ((o, i, more) ∈ s.tk) && SM) → (.agg #[.int .i64 (N : Int), .int .i64 ((i : Int) - (N : Int)), .bool b] : Value) = .agg #[.int .i64 (fN o (o + i) s.gp : Nat), .int .i64 ((i : Int) - (fN o (o + i) s.gp : Nat)), .bool (decide ((o, i, more) ∈ s.tk) && decide (d = (s'.bs.drop o).take i))]) := by rw [hN, hSM]; exact HRT.out
              rw [← hSM]
              obtain ⟨K, hK⟩ : ∃ K, K = s.tk.length := ⟨_, rfl⟩
              rw [← hK] at htk6
              have HK : Hid (K = s.tk.reverse.length) := by rw [List.length_reverse]; exact hK
              obtain ⟨i2, hi2, hx0, hx1, hx2⟩ := info_parts Try.infoPieceR
              clear hN hSM HI HRT hK
              go_wp2
              go_loopw [15] (fun ix wr => ∃ j : Nat, j ≤ K ∧ ix = .int .i64 (j : Int) ∧ Hid (WB w R v B F #[.int .i64 (N : Int), .int .i64 ((i : Int) - (N : Int)), .bool (decide ((o, i, more) ∈ s.tk.reverse.take j) && SM)] wr s.mx (hsL s') s'.bs (eE s) s.tk.reverse v0)) (fun ix _ => K - (intOf ix).toNat)
              case atStart => exact ⟨0, Nat.zero_le _, rfl, by simpa using HI2⟩
              case round =>
                obtain ⟨j, hj, rfl, HJ⟩ := hrel
                clear HI2
                obtain ⟨pa, pc, hpv⟩ := owns_shape HJ.out.wa.rm.po
                have c4 := HJ.out.wa.rm.c4
                have hop := HJ.out.wa.rm.po
                rw [hpv] at hop
                rw [hpv, ← HK.out] at c4
                have fz4 := HJ.out.wa.rm.fz 4
                by_cases hge : K ≤ j
                · have hjK : j = K := by omega
                  have d1 : ¬ (j : Int) < (K : Int) := by omega
                  have HSA : Hid ((decide ((o, i, more) ∈ s.tk.reverse.take j) && SM) = (decide ((o, i, more) ∈ s.tk) && SM)) := by
                    show _ = _
                    rw [List.take_of_length_le (by rw [hjK]; exact Nat.le_of_eq HK.out.symm)]
                    congr 1
                    simp only [List.mem_reverse]
                  rw [HSA.out] at HJ
                  obtain ⟨SA, hSA⟩ : ∃ SA, SA = (decide ((o, i, more) ∈ s.tk) && SM) := ⟨_, rfl⟩
                  have HRT3 : Hid _ := HRT2.out SA hSA
                  rw [← hSA] at HJ
                  have hop2 : wr.ownsRow 0 93 3 (.slice pa K pc) K (psC s.tk.reverse) := by rw [← HK.out] at hop; exact hop
                  clear hge hjK HSA hSA HRT2 hop
                  as_aux_lemma =>
                    go_wp2_with (first | (at_builtin; refine wpList_append_own_at _ rfl (.tmp 154) (.tmp 159) 89 rfl 0 93 i2 _ 3 24 Try.underlying89 hi2 hx0 hx1 hx2 rfl (by decide) _ _ _ rfl (hop2.alloc _) ⟨wr.heap.size, 0, none⟩ 1 1 [.int .i64 (o : Int), .int .i64 (i : Int), .bool more] rfl rfl ?e1 ?e2 ?e3 ?e4 ?e5 ?_))
                    try (case e1 => first | exact three_newR _ _ _ _ _ | (intro j u; exact three_newR _ _ _ _ _ j u))
                    try (case e2 => first | exact ⟨rfl, rfl, rfl⟩ | (intro u hu; simp at hu; rcases hu with rfl | rfl | rfl <;> rfl))
                    try (case e3 => (unfold maxLen; omega))
                    try (case e4 => (omega))
                    try (case e5 => (exact Nat.zero_le _))
                    intro u5 w5 r1 r2 _ r4
                    obtain ⟨a5, z5, hu5⟩ := owns_shape r1
                    have cc : Ch (fun q => v0.pv.ownBlock = some q) wr w5 := (Ch.ofBelow (S := fun q => v0.pv.ownBlock = some q) ((Below.refl _ _).alloc (Nat.le_refl _) _)).trans (Ch.ofGrown r2) (fun _ _ q => by rw [hpv, ← HK.out]; exact q)
                    obtain ⟨v5, h5⟩ := HJ.out.moved (HJ.out.wa.rm.setP cc u5 (s.tk.reverse ++ [(o, i, more)]) (by
                      rw [List.length_append, ← HK.out, psC_app]
                      exact r1) (fun q hq => by
                      rcases r4 with z | z
                      · exact .inl (by rw [hpv, ← HK.out, ← z]; exact hq)
                      · rw [z] at hq
                        simp only [Option.some.injEq] at hq
                        exact .inr (by omega)))
                    obtain ⟨zR, cR⟩ : ∃ z, w5.cell? ⟨R, 4, none⟩ = some z := ⟨_, cc.cell HJ.out.wa.rm.c4 HJ.out.wa.rm.npR⟩
                    have fR : w5.frozen? ⟨R, 4, none⟩ = false := (cc.frozen (p := ⟨R, 4, none⟩) (HJ.out.wa.rm.lt R (.inl rfl)) HJ.out.wa.rm.npR).trans fz4
                    obtain ⟨w6, hw6⟩ : ∃ w6, w6 = w5.setCell ⟨R, 4, none⟩ u5 := ⟨_, rfl⟩
                    rw [← hw6] at h5
                    have HW6 : Hid (w5.setCell ⟨R, 4, none⟩ u5 = w6) := hw6.symm
                    subst hu5
                    clear hw6 r1 r2 r4 cc hop2 hpv c4 fz4 HJ
                    go_upto_region 26 with fail
                    rw [HW6.out]
                    clear HW6 cR fR
                    have HTK : Hid (s.tk.reverse ++ [(o, i, more)] = s'.tk.reverse ∧ s'.mx = s.mx) := by
                      rw [HNF.out.2.2.2.2.2, HNF.out.1]
                      exact ⟨by simp [pt], rfl⟩
                    rw [HTK.out.1] at h5
                    have HL5 : Hid (1 ≤ d.length) := HOK1.out
                    cases more with
                    | true =>
                      have hE : eE s = eE s' := by rw [HNF.out.2.2.2.2.2]; exact (eE_pt_true s o d).symm
                      rw [hE] at h5
                      have H5 : Hid _ := h5
                      have fx5 := h5.fx
                      have ft5 := h5.wa.ft
                      clear h5 hE
                      go_wp2_with (first | (refine wpList_load_Ft (.tmp 12) rfl F _ rfl rfl fx5 rfl ?_) | (refine wpList_store_Ft (.tmp 8) (.tmp 171) rfl rfl B ftz _ rfl rfl (ft_one _ _ _) rfl rfl ft5 rfl ?_))
                      intro w7 hF7 k7
                      obtain ⟨v7, m1, m2, m3⟩ := H5.out.fin k7
                      have HM : Hid (∃ v', RAt w7 R s' v' ∧ (∀ x, RB R v' x → RB R v x ∨ w.heap.size ≤ x) ∧ Ch (RB R v) w w7) := ⟨v7, by unfold RAt; rw [HTK.out.2]; exact m1, m2, m3⟩
                      have HF7 : Hid _ := hF7
                      clear hF7 k7 m1 m2 m3 H5 fx5 ft5
                      go_wp2
                      (try simp only [Exit.inBlock, Exit.then])
                      refine bodyPost_ret (results_ft rfl _ _ B _ rfl rfl HF7.out) rfl ?_
                      refine ⟨?_, HM.out⟩
                      rw [← HRT3.out]
                      rfl
                    | false =>
                      have c3 := h5.wa.rm.c3
                      have fz3 := h5.wa.rm.fz 3
                      obtain ⟨v6, h6⟩ := h5.moved (h5.wa.rm.setE ((o : Int) + (i : Int)))
                      have hE : (o : Int) + (i : Int) = eE s' := by rw [HNF.out.2.2.2.2.2, eE_pt_false s o d HL5.out, HNF.out.1]; omega
                      obtain ⟨w8, hw8⟩ : ∃ w8, w8 = w6.setCell ⟨R, 3, none⟩ (.int .i64 ((o : Int) + (i : Int))) := ⟨_, rfl⟩
                      rw [← hw8] at h6
                      have HW8 : Hid (w6.setCell ⟨R, 3, none⟩ (.int .i64 ((o : Int) + (i : Int))) = w8) := hw8.symm
                      rw [hE] at h6
                      have H6 : Hid _ := h6
                      have fx5 := h6.fx
                      have ft5 := h6.wa.ft
                      clear h5 h6 hE hw8
                      go_upto_region 28 with fail
                      rw [HW8.out]
                      clear HW8 c3 fz3
                      go_wp2_with (first | (refine wpList_load_Ft (.tmp 12) rfl F _ rfl rfl fx5 rfl ?_) | (refine wpList_store_Ft (.tmp 8) (.tmp 171) rfl rfl B ftz _ rfl rfl (ft_one _ _ _) rfl rfl ft5 rfl ?_))
                      intro w7 hF7 k7
                      obtain ⟨v7, m1, m2, m3⟩ := H6.out.fin k7
                      have HM : Hid (∃ v', RAt w7 R s' v' ∧ (∀ x, RB R v' x → RB R v x ∨ w.heap.size ≤ x) ∧ Ch (RB R v) w w7) := ⟨v7, by unfold RAt; rw [HTK.out.2]; exact m1, m2, m3⟩
                      have HF7 : Hid _ := hF7
                      clear hF7 k7 m1 m2 m3 H6 fx5 ft5
                      go_wp2
                      (try simp only [Exit.inBlock, Exit.then])
                      refine bodyPost_ret (results_ft rfl _ _ B _ rfl rfl HF7.out) rfl ?_
                      refine ⟨?_, HM.out⟩
                      rw [← HRT3.out]
                      rfl
                · have d1 : (j : Int) < (K : Int) := by omega
                  have hjL : j < s.tk.reverse.length := by rw [← HK.out]; omega
                  obtain ⟨g, hga, q0, q1, q2⟩ := ps_row (by rw [← HK.out] at hop ⊢; exact hop) HK.out j hjL
                  subst hga
                  obtain ⟨P, hP⟩ : ∃ P, P = s.tk.reverse[j] := ⟨_, rfl⟩
                  rw [← hP] at q0 q1 q2
                  have HMT : Hid (decide ((o, i, more) ∈ s.tk.reverse.take (j + 1)) = (decide ((o, i, more) ∈ s.tk.reverse.take j) || decide ((o, i, more) = P))) := by show _ = _; rw [hP]; exact mem_take _ j hjL (o, i, more)
                  obtain ⟨pO, pN, pM⟩ := P
                  simp only at q0 q1 q2
                  have cF2 := HJ.out.fx.cell 2
                  have fF2 := HJ.out.fx.fz 2
                  have hFw := HJ.out.fx.lt
                  obtain ⟨w1, hw1e⟩ : ∃ w1, w1 = wr.alloc (.cells #[.int .i64 (pO : Int), .int .i64 (pN : Int), .bool pM] 93) := ⟨_, rfl⟩
                  obtain ⟨b0', b1', b2'⟩ := pc3R wr (.int .i64 (pO : Int)) (.int .i64 (pN : Int)) (.bool pM)
                  obtain ⟨P1, hP1⟩ : ∃ P1, P1 = wr.heap.size := ⟨_, rfl⟩
                  rw [← hw1e, ← hP1] at b0' b1' b2'
                  have HB1 : Hid (Below wr.heap.size wr w1) := by rw [hw1e]; exact (Below.refl _ _).alloc (Nat.le_refl _) _
                  have HW1 : Hid (wr.alloc (.cells #[.int .i64 (pO : Int), .int .i64 (pN : Int), .bool pM] 93) = w1 ∧ wr.heap.size = P1) := ⟨hw1e.symm, hP1.symm⟩
                  clear hge hop hpv fz4 hP hw1e hP1
                  go_upto_region 23 with fail
                  rw [HW1.out.1, HW1.out.2]
                  have cF2' : w1.cell? ⟨F, 2, none⟩ = some (.bool (decide ((o, i, more) ∈ s.tk.reverse.take j) && SM)) := (World.cell?_of_block (HB1.out.block F hFw)).trans cF2
                  have fF2' : w1.frozen? ⟨F, 2, none⟩ = false := (World.frozen?_of_block (HB1.out.block F hFw)).trans fF2
                  clear HW1 q0 q1 q2 c4 cF2 fF2 hFw
                  by_cases a1 : pO = o
                  · subst a1
                    have f1 : ((pO : Int) == (pO : Int)) = true := by simp
                    by_cases a2 : pN = i
                    · subst a2
                      have f2 : ((pN : Int) == (pN : Int)) = true := by simp
                      by_cases a3 : pM = more
                      · subst a3
                        have f3 : (pM == pM) = true := by simp
                        cases SM with
                        | false =>
                          have HJ1 : Hid (WB w R v B F #[.int .i64 (N : Int), .int .i64 ((pN : Int) - (N : Int)), .bool (decide ((pO, pN, pM) ∈ s.tk.reverse.take (j + 1)) && false)] w1 s.mx (hsL s') s'.bs (eE s) s.tk.reverse v0) := by
                            show WB _ _ _ _ _ _ _ _ _ _ _ _ _
                            rw [Bool.and_false]
                            have := HJ.out.below HB1.out
                            rw [Bool.and_false] at this
                            exact this
                          as_aux_lemma =>
                            go_wp2
                            go_roundw
                            case rel => exact ⟨j + 1, by omega, by go_num, HJ1⟩
                            case measure => simp [intOf]; omega
                        | true =>
                          have HJ1 : Hid (WB w R v B F #[.int .i64 (N : Int), .int .i64 ((pN : Int) - (N : Int)), .bool (decide ((pO, pN, pM) ∈ s.tk.reverse.take (j + 1)) && true)] (w1.setCell ⟨F, 2, none⟩ (.bool true)) s.mx (hsL s') s'.bs (eE s) s.tk.reverse v0) := by
                            show WB _ _ _ _ _ _ _ _ _ _ _ _ _
                            rw [HMT.out, decide_eq_true rfl, Bool.or_true, Bool.and_true]
                            exact (HJ.out.below HB1.out).box 2 (.bool true)
                          as_aux_lemma =>
                            go_wp2
                            go_roundw
                            case rel => exact ⟨j + 1, by omega, by go_num, HJ1⟩
                            case measure => simp [intOf]; omega
                      · have f3 : (pM == more) = false := by rw [beq_eq_false_iff_ne]; exact a3
                        have HNE : Hid (¬ (pO, pN, more) = (pO, pN, pM)) := fun e => a3 (by simp only [Prod.mk.injEq, true_and] at e; exact e.symm)
                        clear a3
                        as_aux_lemma =>
                          have HJ1 : Hid (WB w R v B F #[.int .i64 (N : Int), .int .i64 ((pN : Int) - (N : Int)), .bool (decide ((pO, pN, more) ∈ s.tk.reverse.take (j + 1)) && SM)] w1 s.mx (hsL s') s'.bs (eE s) s.tk.reverse v0) := by
                            show WB _ _ _ _ _ _ _ _ _ _ _ _ _
                            rw [HMT.out, decide_eq_false (HNE.out), Bool.or_false]
                            exact HJ.out.below HB1.out
                          go_wp2
                          go_roundw
                          case rel => exact ⟨j + 1, by omega, by go_num, HJ1⟩
                          case measure => simp [intOf]; omega
                    · have f2 : ((pN : Int) == (i : Int)) = false := by rw [beq_eq_false_iff_ne]; omega
                      have HNE : Hid (¬ (pO, i, more) = (pO, pN, pM)) := fun e => a2 (by simp only [Prod.mk.injEq, true_and] at e; exact e.1.symm)
                      clear a2
                      as_aux_lemma =>
                        have HJ1 : Hid (WB w R v B F #[.int .i64 (N : Int), .int .i64 ((i : Int) - (N : Int)), .bool (decide ((pO, i, more) ∈ s.tk.reverse.take (j + 1)) && SM)] w1 s.mx (hsL s') s'.bs (eE s) s.tk.reverse v0) := by
                          show WB _ _ _ _ _ _ _ _ _ _ _ _ _
                          rw [HMT.out, decide_eq_false (HNE.out), Bool.or_false]
                          exact HJ.out.below HB1.out
                        go_wp2
                        go_roundw
                        case rel => exact ⟨j + 1, by omega, by go_num, HJ1⟩
                        case measure => simp [intOf]; omega
                  · have f1 : ((pO : Int) == (o : Int)) = false := by rw [beq_eq_false_iff_ne]; omega
                    have HNE : Hid (¬ (o, i, more) = (pO, pN, pM)) := fun e => a1 (by simp only [Prod.mk.injEq] at e; exact e.1.symm)
                    clear a1
                    as_aux_lemma =>
                      have HJ1 : Hid (WB w R v B F #[.int .i64 (N : Int), .int .i64 ((i : Int) - (N : Int)), .bool (decide ((o, i, more) ∈ s.tk.reverse.take (j + 1)) && SM)] w1 s.mx (hsL s') s'.bs (eE s) s.tk.reverse v0) := by
                        show WB _ _ _ _ _ _ _ _ _ _ _ _ _
                        rw [HMT.out, decide_eq_false (HNE.out), Bool.or_false]
                        exact HJ.out.below HB1.out
                      go_wp2
                      go_roundw
                      case rel => exact ⟨j + 1, by omega, by go_num, HJ1⟩
                      case measure => simp [intOf]; omega
          · have d0 : (i : Int) < (n : Int) := by omega
            have hiD : i < d.length := by rw [← HNF.out.1]; omega
            clear hge
            obtain ⟨p, hp⟩ : ∃ p, p = o + i := ⟨_, rfl⟩
            have hpL : p < L := by omega
            have wp : IntKind.i64.wrap ((o : Int) + (i : Int)) = (p : Int) := by rw [IntKind.wrap_i64]; omega
            have dp : (p : Int) < (L : Int) := by omega
            have hll : lenI s o d.length = L := by rw [HZ.out.2.2.2, HNF.out.1]
            obtain ⟨gh, ch, hhv, hhc⟩ : ∃ g cc, v0.hv = .slice (some ⟨g, 0, none⟩) L cc ∧ wr.cell? ⟨g, p, none⟩ = some (.bool (!inB s.gp p)) := by
              have ho := HI.out.wa.rm.ho
              rw [hI_len, hll] at ho
              rcases ho.2 with ⟨_, e2⟩ | ⟨g, cap, cur, e1, _⟩
              · omega
              · rw [e1] at ho
                refine ⟨g, cap, e1, ?_⟩
                rw [ho.cellAt p (by omega), List.getElem?_map, hp, hI_at hiD]
                rfl
            have c1 := HI.out.wa.rm.c1
            rw [hhv] at c1
            have hfo := HI.out.fx.cell 1
            have hfn := HI.out.fx.cell 0
            have ff1 := HI.out.fx.fz 1
            have ff0 := HI.out.fx.fz 0
            obtain ⟨N, hN⟩ : ∃ N, N = cnt (fun k => inB s.gp (o + k)) i := ⟨_, rfl⟩
            have hNi : N ≤ i := by rw [hN]; exact cnt_le _ _
            have HNN : Hid (cnt (fun k => inB s.gp (o + k)) (i + 1) = N + (if inB s.gp p = true then 1 else 0)) := by rw [hN, hp]; rfl
            have hfo' : wr.cell? ⟨F, 1, none⟩ = some (.int .i64 ((i : Int) - (N : Int))) := by rw [hN]; exact hfo
            have hfn' : wr.cell? ⟨F, 0, none⟩ = some (.int .i64 (N : Int)) := by rw [hN]; exact hfn
            have HI2 : Hid (WB w R v B F #[.int .i64 (N : Int), .int .i64 ((i : Int) - (N : Int)), .bool false] wr s.mx (hI s o d.length i) (dI s o d i) (eE s) s.tk.reverse v0) := by rw [hN]; exact HI.out
            obtain ⟨SB, hSB⟩ : ∃ SB, SB = smI s o d i := ⟨_, rfl⟩
            have HSB : Hid (smI s o d (i + 1) = (SB && (inB s.gp p || s.bs.getD p 0 == d.getD i 0))) := by rw [hSB, hp]; rfl
            rw [← hSB]
            have HP : Hid (p = o + i) := hp
            obtain ⟨xb, xo, hda, hxc⟩ := seg_at (HSG.out wr HI.out.wa.ch) i hiD
            have x1 := hxc i hiD
            have hin2 : i + 1 ≤ n := by omega
            obtain ⟨gd, cd, hdv, hdc⟩ : ∃ g cc, v0.dv = .slice (some ⟨g, 0, none⟩) L cc ∧ wr.cell? ⟨g, p, none⟩ = some (.int .u8 ((s.bs.getD p 0 : Nat) : Int)) := by
              have ho := HI.out.wa.rm.ob
              rw [dI_len, hll] at ho
              rcases ho.2 with ⟨_, e2⟩ | ⟨g, cap, cur, e1, _⟩
              · omega
              · rw [e1] at ho
                refine ⟨g, cap, e1, ?_⟩
                rw [ho.cellAt p (by omega), List.getElem?_map]
                unfold toI
                rw [List.getElem?_map, hp, dI_at hiD]
                rfl
            have c2 := HI.out.wa.rm.c2
            rw [hdv] at c2
            obtain ⟨X, hX⟩ : ∃ X, X = d.getD i 0 := ⟨_, rfl⟩
            obtain ⟨Y, hY⟩ : ∃ Y, Y = s.bs.getD p 0 := ⟨_, rfl⟩
            rw [← hX] at x1 HSB
            rw [← hY] at hdc HSB
            have HX : Hid (X = d.getD i 0) := hX
            have Q3 : gd ≠ F := fun e => HI.out.nf gd (.inr (.inr (.inl (by rw [hdv]; rfl)))) e
            have Q4 : R ≠ F := fun e => HI.out.nf R (.inl rfl) e
            have Q5 : gh ≠ F := fun e => HI.out.nf gh (.inr (.inl (by rw [hhv]; rfl))) e
            have Q8 : xb ≠ F := fun e => by
              have k1 := HI.out.fo
              have k2 := HBB.out
              have k3 := (HXB.out _ (by omega) hda).1
              simp only at k3
              omega
            subst hda
            clear hN hfo hfn HI hSB hp hX hY hxc hll
            cases hq : inB s.gp p with
            | false =>
              have HH : Hid (hI s o d.length (i + 1) = hI s o d.length i ∧ dI s o d (i + 1) = dI s o d i) := by
                have hq' := hq
                rw [HP.out] at hq'
                exact ⟨hI_held hq', dI_held hq'⟩
              rw [hq] at hhc HNN HSB
              rw [if_neg (by simp)] at HNN
              rw [Bool.false_or] at HSB
              have w1 : IntKind.i64.wrap ((i : Int) - (N : Int) + 1) = (i : Int) - (N : Int) + 1 := by rw [IntKind.wrap_i64]; omega
              clear hq
              as_aux_lemma =>
                obtain ⟨w5, hw5⟩ : ∃ w5, w5 = wr.setCell ⟨F, 1, none⟩ (.int .i64 ((i : Int) - (N : Int) + 1)) := ⟨_, rfl⟩
                have HI5 : Hid (WB w R v B F #[.int .i64 (N : Int), .int .i64 ((i : Int) - (N : Int) + 1), .bool false] w5 s.mx (hI s o d.length i) (dI s o d i) (eE s) s.tk.reverse v0) := by
                  have := HI2.out.box 1 (.int .i64 ((i : Int) - (N : Int) + 1))
                  rw [← hw5] at this
                  exact this
                have k5 : Ch (fun q => q = F) wr w5 := by rw [hw5]; exact (Ch.refl _ _).set _ _ rfl
                have c2' := k5.cell c2 Q4
                have hdc' := k5.cell hdc Q3
                have x1' := k5.cell x1 Q8
                have HW5 : Hid (wr.setCell ⟨F, 1, none⟩ (.int .i64 ((i : Int) - (N : Int) + 1)) = w5) := hw5.symm
                clear hw5 k5 HI2 Q3 Q4 Q5 Q8 c2 hdc x1
                go_upto_region 15 with fail
                rw [HW5.out]
                refine MixH.start (fun A => A.cell? ⟨R, 2, none⟩ = some (.slice (some ⟨gd, 0, none⟩) L cd) ∧ A.cell? ⟨gd, p, none⟩ = some (.int .u8 (Y : Int)) ∧ A.cell? ⟨xb, xo + i, none⟩ = some (.int .u8 (X : Int))) (by kernel_rfl) ?_
                obtain ⟨wA, hwA⟩ : ∃ wA, wA = w5.drew := ⟨_, rfl⟩
                have hS : wA.cell? ⟨R, 2, none⟩ = some (.slice (some ⟨gd, 0, none⟩) L cd) ∧ wA.cell? ⟨gd, p, none⟩ = some (.int .u8 (Y : Int)) ∧ wA.cell? ⟨xb, xo + i, none⟩ = some (.int .u8 (X : Int)) := by rw [hwA]; exact ⟨c2', hdc', x1'⟩
                have HIA : Hid (WB w R v B F #[.int .i64 ((cnt (fun k => inB s.gp (o + k)) (i + 1) : Nat) : Int), .int .i64 (((i + 1) : Int) - (cnt (fun k => inB s.gp (o + k)) (i + 1) : Nat)), .bool false] wA s.mx (hI s o d.length (i + 1)) (dI s o d (i + 1)) (eE s) s.tk.reverse v0) := by
                  have hbb : Below w5.heap.size w5 w5.drew := drew_below (Below.refl _ _)
                  show WB _ _ _ _ _ _ _ _ _ _ _ _ _
                  rw [hwA, HNN.out, HH.out.1, HH.out.2]
                  have h1 := HI5.out.below hbb
                  have e : ((i + 1 : Nat) : Int) - ((N + 0 : Nat) : Int) = (i : Int) - (N : Int) + 1 := by omega
                  rw [Nat.add_zero] at e
                  simp only [Nat.add_zero]
                  rw [show (((i : Nat) : Int) + 1 - (N : Int)) = (i : Int) - (N : Int) + 1 by omega]
                  exact h1
                rw [← hwA]
                clear hwA c2' hdc' x1' HI5 HW5 c1 hhc hhv hdv hfo' hfn' ff1 ff0
                cases SB with
                | true =>
                  rw [Bool.true_and] at HSB
                  refine MixH.takes [true, true, true, true, true] 13 (by kernel_rfl) (by kernel_rfl) (by decide) (by kernel_rfl) hS (fun K hK => ?_)
                  simp only [Mix.pick]
                  repeat (go_big_quiet_step (fail))
                  refine wpQuiet_nil (hK _ ?_)
                  clear hK K
                  refine MixH.take 12 5 _ (.slice (some ⟨gd, 0, none⟩) L cd) rfl (by kernel_rfl) (by kernel_rfl) (by kernel_rfl) (by kernel_rfl) (yields_bytes (.tmp 77) rfl ⟨R, 2, none⟩ _ rfl rfl (fun A hA => hA.1)) hS (fun a' ha => ?_)
                  simp only [Act.put, List.setIfInBounds_toArray, List.set_cons_succ, List.set_cons_zero] at ha
                  subst ha
                  refine MixH.takes [false, false, false, false, false, false, true, true, true, true] 8 (by kernel_rfl) (by kernel_rfl) (by decide) (by kernel_rfl) hS (fun K hK => ?_)
                  simp only [Mix.pick]
                  repeat (go_big_quiet_step (fail))
                  refine wpQuiet_nil (hK _ ?_)
                  clear hK K
                  refine MixH.take 7 10 _ (.int .u8 (Y : Int)) rfl (by kernel_rfl) (by kernel_rfl) (by kernel_rfl) (by kernel_rfl) (yields_u8 (.tmp 82) rfl ⟨gd, p, none⟩ _ rfl rfl (fun A hA => hA.2.1)) hS (fun a' ha => ?_)
                  simp only [Act.put, List.setIfInBounds_toArray, List.set_cons_succ, List.set_cons_zero] at ha
                  subst ha
                  refine MixH.takes [false, false, false, false, false, false, false, false, false, false, false, true, true, true] 4 (by kernel_rfl) (by kernel_rfl) (by decide) (by kernel_rfl) hS (fun K hK => ?_)
                  simp only [Mix.pick]
                  repeat (go_big_quiet_step (fail))
                  refine wpQuiet_nil (hK _ ?_)
                  clear hK K
                  refine MixH.take 3 14 _ (.int .u8 (X : Int)) rfl (by kernel_rfl) (by kernel_rfl) (by kernel_rfl) (by kernel_rfl) (yields_u8 (.tmp 86) rfl ⟨xb, xo + i, none⟩ _ rfl rfl (fun A hA => hA.2.2)) hS (fun a' ha => ?_)
                  simp only [Act.put, List.setIfInBounds_toArray, List.set_cons_succ, List.set_cons_zero] at ha
                  subst ha
                  refine MixH.takes [false, false, false, false, false, false, false, false, false, false, false, false, false, false, false, true, true, true] 0 (by kernel_rfl) (by kernel_rfl) (by decide) (by kernel_rfl) hS (fun K hK => ?_)
                  simp only [Mix.pick]
                  repeat (go_big_quiet_step (fail))
                  refine wpQuiet_nil (hK _ ?_)
                  clear hK K
                  refine MixH.done (by kernel_rfl) ?_
                  clear hS
                  go_wp2
                  go_roundw
                  case rel => exact ⟨i + 1, hin2, by go_num, by rw [HSB.out]; first | rfl | (congr 1; rw [Bool.eq_iff_iff, beq_iff_eq, beq_iff_eq]; omega), HIA⟩
                  case measure => simp [intOf]; omega
                | false =>
                  rw [Bool.false_and] at HSB
                  refine MixH.takes [true, true, true, true, true] 13 (by kernel_rfl) (by kernel_rfl) (by decide) (by kernel_rfl) hS (fun K hK => ?_)
                  simp only [Mix.pick]
                  repeat (go_big_quiet_step (fail))
                  refine wpQuiet_nil (hK _ ?_)
                  clear hK K
                  refine MixH.take 12 5 _ (undef) rfl (by kernel_rfl) (by kernel_rfl) (by kernel_rfl) (by kernel_rfl) (.inr ⟨rfl, rfl⟩) hS (fun a' ha => ?_)
                  simp only [Act.put, List.setIfInBounds_toArray, List.set_cons_succ, List.set_cons_zero] at ha
                  subst ha
                  refine MixH.takes [false, false, false, false, false, false, true, true, true, true] 8 (by kernel_rfl) (by kernel_rfl) (by decide) (by kernel_rfl) hS (fun K hK => ?_)
                  simp only [Mix.pick]
                  repeat (go_big_quiet_step (fail))
                  refine wpQuiet_nil (hK _ ?_)
                  clear hK K
                  refine MixH.take 7 10 _ (undef) rfl (by kernel_rfl) (by kernel_rfl) (by kernel_rfl) (by kernel_rfl) (.inr ⟨rfl, rfl⟩) hS (fun a' ha => ?_)
                  simp only [Act.put, List.setIfInBounds_toArray, List.set_cons_succ, List.set_cons_zero] at ha
                  subst ha
                  refine MixH.takes [false, false, false, false, false, false, false, false, false, false, false, true, true, true] 4 (by kernel_rfl) (by kernel_rfl) (by decide) (by kernel_rfl) hS (fun K hK => ?_)
                  simp only [Mix.pick]
                  repeat (go_big_quiet_step (fail))
                  refine wpQuiet_nil (hK _ ?_)
                  clear hK K
                  refine MixH.take 3 14 _ (undef) rfl (by kernel_rfl) (by kernel_rfl) (by kernel_rfl) (by kernel_rfl) (.inr ⟨rfl, rfl⟩) hS (fun a' ha => ?_)
                  simp only [Act.put, List.setIfInBounds_toArray, List.set_cons_succ, List.set_cons_zero] at ha
                  subst ha
                  refine MixH.takes [false, false, false, false, false, false, false, false, false, false, false, false, false, false, false, true, true, true] 0 (by kernel_rfl) (by kernel_rfl) (by decide) (by kernel_rfl) hS (fun K hK => ?_)
                  simp only [Mix.pick]
                  repeat (go_big_quiet_step (fail))
                  refine wpQuiet_nil (hK _ ?_)
                  clear hK K
                  refine MixH.done (by kernel_rfl) ?_
                  clear hS
                  go_wp2
                  go_roundw
                  case rel => exact ⟨i + 1, hin2, by go_num, by rw [HSB.out], HIA⟩
                  case measure => simp [intOf]; omega
            | true =>
              have HH : Hid ((hI s o d.length i).set p true = hI s o d.length (i + 1) ∧ (dI s o d i).set p X = dI s o d (i + 1)) := by
                have hq' := hq
                rw [HP.out] at hq' ⊢
                rw [HX.out]
                exact ⟨hI_new, dI_new hq'⟩
              rw [hq] at hhc HNN HSB
              rw [if_pos rfl] at HNN
              rw [Bool.true_or, Bool.and_true] at HSB
              have w1 : IntKind.i64.wrap ((N : Int) + 1) = (N : Int) + 1 := by rw [IntKind.wrap_i64]; omega
              clear hq
              as_aux_lemma =>
                obtain ⟨w5, hw5⟩ : ∃ w5, w5 = wr.setCell ⟨F, 0, none⟩ (.int .i64 ((N : Int) + 1)) := ⟨_, rfl⟩
                have HI5 : Hid (WB w R v B F #[.int .i64 ((N : Int) + 1), .int .i64 ((i : Int) - (N : Int)), .bool false] w5 s.mx (hI s o d.length i) (dI s o d i) (eE s) s.tk.reverse v0) := by
                  have := HI2.out.box 0 (.int .i64 ((N : Int) + 1))
                  rw [← hw5] at this
                  exact this
                have k5 : Ch (fun q => q = F) wr w5 := by rw [hw5]; exact (Ch.refl _ _).set _ _ rfl
                have c1' := k5.cell c1 Q4
                have c2' := k5.cell c2 Q4
                have x1' := k5.cell x1 Q8
                have hhc' := k5.cell hhc Q5
                have Q6 : gh ≠ R := fun e => HI2.out.wa.rm.nhR (by rw [hhv, ← e]; rfl)
                have Q7 : R ≠ gd := fun e => HI2.out.wa.rm.ndR (by rw [hdv, e]; rfl)
                have Qx : ¬ RB R v0 xb := fun q => by
                  have k2 := HBB.out
                  have k3 : xb < w.heap.size ∧ ¬ RB R v xb := HXB.out _ (by omega) rfl
                  rcases HI2.out.wa.kk xb q with z | z
                  · exact k3.2 z
                  · omega
                have Q9 : xb ≠ gd := fun e => Qx (.inr (.inr (.inl (by rw [hdv, e]; rfl))))
                have Q10 : xb ≠ gh := fun e => Qx (.inr (.inl (by rw [hhv, e]; rfl)))
                have Q11 : gh ≠ gd := fun e => HI2.out.wa.rm.nhd gh (by rw [hhv]; rfl) (by rw [hdv, e]; rfl)
                have hlen : L = (hI s o d.length i).length := by rw [hI_len, HZ.out.2.2.2, HNF.out.1]
                have hlen2 : L = (dI s o d i).length := by rw [dI_len, HZ.out.2.2.2, HNF.out.1]
                obtain ⟨w6, hw6⟩ : ∃ w6, w6 = w5.setCell ⟨gh, p, none⟩ (.bool true) := ⟨_, rfl⟩
                have hp6 := HI5.out.wa.rm.putH hhv hlen p true
                have HI6 := HI5.out.same hp6.1 hp6.2
                rw [← hw6] at HI6
                have k6 : Ch (fun q => q = gh) w5 w6 := by rw [hw6]; exact (Ch.refl _ _).set _ _ rfl
                have c2'' := k6.cell c2' (fun e => Q6 e.symm)
                have x1'' := k6.cell x1' Q10
                have ffh : w5.frozen? ⟨gh, p, none⟩ = false := by have := HI5.out.wa.rm.ho; rw [hhv] at this; rw [← hlen] at this; exact this.frozenAt p
                have HW5 : Hid (wr.setCell ⟨F, 0, none⟩ (.int .i64 ((N : Int) + 1)) = w5) := hw5.symm
                have HW6 : Hid (w5.setCell ⟨gh, p, none⟩ (.bool true) = w6) := hw6.symm
                have HI6' : Hid _ := HI6
                have c1h := c1'
                clear hw5 k5 HI2 Q3 Q4 Q5 Q8 Q6 Q10 Q11 Qx c2 x1 c2' x1' hw6 hp6 HI6 k6 HI5 hfo' ff1
                go_upto_region 17 with fail
                rw [HW5.out]
                clear HW5 hfn' ff0 c1 hhc
                go_upto_region 18 with fail
                rw [HW6.out]
                clear HW6 c1' c1h hhc' ffh
                have ffd : w6.frozen? ⟨gd, p, none⟩ = false := by have := HI6'.out.wa.rm.ob; rw [hdv] at this; rw [← hlen2] at this; exact this.frozenAt p
                have cdp : ∃ z, w6.cell? ⟨gd, p, none⟩ = some z := by
                  have := HI6'.out.wa.rm.ob
                  rw [hdv, ← hlen2] at this
                  rw [this.cellAt p (by omega), List.getElem?_eq_getElem (by rw [List.length_map, toI_len, ← hlen2]; omega)]
                  exact ⟨_, rfl⟩
                obtain ⟨zd, cdp⟩ := cdp
                refine MixH.start (fun A => A.cell? ⟨R, 2, none⟩ = some (.slice (some ⟨gd, 0, none⟩) L cd) ∧ A.cell? ⟨xb, xo + i, none⟩ = some (.int .u8 (X : Int))) (by kernel_rfl) ?_
                obtain ⟨wA, hwA⟩ : ∃ wA, wA = w6.drew := ⟨_, rfl⟩
                have hS : wA.cell? ⟨R, 2, none⟩ = some (.slice (some ⟨gd, 0, none⟩) L cd) ∧ wA.cell? ⟨xb, xo + i, none⟩ = some (.int .u8 (X : Int)) := by rw [hwA]; exact ⟨c2'', x1''⟩
                have hbb : Below w6.heap.size w6 w6.drew := drew_below (Below.refl _ _)
                have HIA := HI6'.out.below hbb
                rw [← hwA] at HIA
                have ffdA : wA.frozen? ⟨gd, p, none⟩ = false := by rw [hwA]; exact ffd
                have cdA : wA.cell? ⟨gd, p, none⟩ = some zd := by rw [hwA]; exact cdp
                rw [← hwA]
                obtain ⟨w8, hw8⟩ : ∃ w8, w8 = wA.setCell ⟨gd, p, none⟩ (.int .u8 (X : Int)) := ⟨_, rfl⟩
                have hp8 := HIA.wa.rm.putD hdv hlen2 p X
                have HI8 := HIA.same hp8.1 hp8.2
                rw [← hw8] at HI8
                have k8 : Ch (fun q => q = gd) wA w8 := by rw [hw8]; exact (Ch.refl _ _).set _ _ rfl
                have HW8 : Hid (wA.setCell ⟨gd, p, none⟩ (.int .u8 (X : Int)) = w8) := hw8.symm
                have HI9 : Hid (WB w R v B F #[.int .i64 ((cnt (fun k => inB s.gp (o + k)) (i + 1) : Nat) : Int), .int .i64 (((i + 1) : Int) - (cnt (fun k => inB s.gp (o + k)) (i + 1) : Nat)), .bool false] w8 s.mx (hI s o d.length (i + 1)) (dI s o d (i + 1)) (eE s) s.tk.reverse v0) := by
                  show WB _ _ _ _ _ _ _ _ _ _ _ _ _
                  rw [HNN.out, ← HH.out.1, ← HH.out.2]
                  have e1 : ((N + 1 : Nat) : Int) = (N : Int) + 1 := by omega
                  have e2 : ((i + 1 : Nat) : Int) - ((N : Int) + 1) = (i : Int) - (N : Int) := by omega
                  rw [e1, show (((i : Nat) : Int) + 1 - ((N : Int) + 1)) = (i : Int) - (N : Int) by omega]
                  exact HI8
                clear hwA hbb HIA hw8 hp8 HI8 HI6' c2'' x1'' ffd cdp hlen hlen2 hhv hdv
                refine MixH.takes [true, true, true] 10 (by kernel_rfl) (by kernel_rfl) (by decide) (by kernel_rfl) hS (fun K hK => ?_)
                simp only [Mix.pick]
                repeat (go_big_quiet_step (fail))
                refine wpQuiet_nil (hK _ ?_)
                clear hK K
                refine MixH.take 9 3 _ (.slice (some ⟨gd, 0, none⟩) L cd) rfl (by kernel_rfl) (by kernel_rfl) (by kernel_rfl) (by kernel_rfl) (yields_bytes (.tmp 104) rfl ⟨R, 2, none⟩ _ rfl rfl (fun A hA => hA.1)) hS (fun a' ha => ?_)
                simp only [Act.put, List.setIfInBounds_toArray, List.set_cons_succ, List.set_cons_zero] at ha
                subst ha
                refine MixH.takes [false, false, false, false, true, true, true, true, true, true] 3 (by kernel_rfl) (by kernel_rfl) (by decide) (by kernel_rfl) hS (fun K hK => ?_)
                simp only [Mix.pick]
                repeat (go_big_quiet_step (fail))
                refine wpQuiet_nil (hK _ ?_)
                clear hK K
                refine MixH.take 2 10 _ (.int .u8 (X : Int)) rfl (by kernel_rfl) (by kernel_rfl) (by kernel_rfl) (by kernel_rfl) (yields_u8 (.tmp 111) rfl ⟨xb, xo + i, none⟩ _ rfl rfl (fun A hA => hA.2)) hS (fun a' ha => ?_)
                simp only [Act.put, List.setIfInBounds_toArray, List.set_cons_succ, List.set_cons_zero] at ha
                subst ha
                refine MixH.takes [false, false, false, false, false, false, false, false, false, false, false, true] 1 (by kernel_rfl) (by kernel_rfl) (by decide) (by kernel_rfl) hS (fun K hK => ?_)
                simp only [Mix.pick]
                repeat (go_big_quiet_step (fail))
                refine wpQuiet_nil (hK _ ?_)
                clear hK K
                refine MixH.one [false, false, false, false, false, false, false, false, false, false, false, false, true] 0 12 _ rfl rfl (by kernel_rfl) (by kernel_rfl) (fun K hK => ?_)
                simp only [Mix.pick]
                go_wp2
                rw [HW8.out]
                replace hS : w8.cell? ⟨R, 2, none⟩ = some (.slice (some ⟨gd, 0, none⟩) L cd) ∧ w8.cell? ⟨xb, xo + i, none⟩ = some (.int .u8 (X : Int)) := ⟨k8.cell hS.1 Q7, k8.cell hS.2 Q9⟩
                refine ⟨rfl, hK _ _ hS ?_⟩
                clear hK K
                refine MixH.done (by kernel_rfl) ?_
                clear hS k8 HW8
                go_wp2
                go_roundw
                case rel => exact ⟨i + 1, hin2, by go_num, by rw [HSB.out], HI9⟩
                case measure => simp [intOf]; omega
    · have hd0 : ((b0 + t : Nat) : Int) < ((o + n : Nat) : Int) := by omega
      have hoh := HW0.out.rm.ho
      rw [hv, hlen] at hoh
      have htL : t + 1 ≤ L - b0 := by omega
      clear hge ht
      as_aux_lemma =>
        have hln0 : lnAt wr R = b0 + t := by rw [HW0.out.rm.ln]; exact hlen
        have HLNH : Hid (lnAt wr R = b0 + t) := hln0
        clear hln0
        go_wp2_with (first | (at_builtin; refine wpList_append_own_at _ rfl (.tmp 41) (.tmp 42) 31 rfl 0 4 i0 _ 1 1 Try.underlying31 hi0 hz0 hz1 hz2 rfl (by decide) _ _ _ rfl (hoh.alloc _) ⟨wr.heap.size, 0, none⟩ 1 1 [.bool false] rfl rfl ?k1 ?k2 ?k3 ?k4 ?k5 ?_))
        case k1 => exact one_newR _ _ _
        case k2 => intro u hu; simp at hu; subst hu; rfl
        case k3 => unfold maxLen; omega
        case k4 => omega
        case k5 => exact Nat.zero_le _
        intro u5 w5 r1 r2 _ r4
        obtain ⟨a5, z5, hu5⟩ := owns_shape r1
        have cc : Ch (fun q => v0.hv.ownBlock = some q) wr w5 := (Ch.ofBelow (S := fun q => v0.hv.ownBlock = some q) ((Below.refl _ _).alloc (Nat.le_refl _) _)).trans (Ch.ofGrown r2) (fun _ _ q => by rw [hv, hlen]; exact q)
        have hm := HW0.out.moved (HW0.out.rm.setH cc u5 (hsL s ++ List.replicate (t + 1) false) (by
          have e1 : (hsL s ++ List.replicate (t + 1) false).length = b0 + t + 1 := by rw [List.length_append, hsL_len, List.length_replicate, HZ.out.2.2.1]; omega
          rw [e1, List.replicate_succ', ← List.append_assoc, List.map_append, List.map_append, List.append_assoc, List.map_replicate]
          exact r1) (fun q hq => by
          rcases r4 with z | z
          · exact .inl (by rw [hv, hlen, ← z]; exact hq)
          · rw [z] at hq
            simp only [Option.some.injEq] at hq
            exact .inr (by omega)))
        obtain ⟨v1, h1, _, _⟩ := hm
        have k5' : Ch (fun q => q = R) w5 (w5.setCell ⟨R, 1, none⟩ u5) := (Ch.refl _ w5).set _ _ rfl
        have cR1 : ∃ z, w5.cell? ⟨R, 1, none⟩ = some z := ⟨_, cc.cell HW0.out.rm.c1 HW0.out.rm.nhR⟩
        have fR1 : w5.frozen? ⟨R, 1, none⟩ = false := (cc.frozen (p := ⟨R, 1, none⟩) (HW0.out.rm.lt R (.inl rfl)) HW0.out.rm.nhR).trans fz1
        obtain ⟨zR, cR1⟩ := cR1
        obtain ⟨w6, hw6⟩ : ∃ w6, w6 = w5.setCell ⟨R, 1, none⟩ u5 := ⟨_, rfl⟩
        rw [← hw6] at h1
        have HW6 : Hid (w5.setCell ⟨R, 1, none⟩ u5 = w6) := hw6.symm
        have H1 : Hid (WA w R v B w6 s.mx (hsL s ++ List.replicate (t + 1) false) (s.bs ++ List.replicate t 0) (eE s) s.tk.reverse v1) := h1
        subst hu5
        clear h1 hw6 k5' cc r1 r2 r4 hoh hv hlen HW0 c1 fz1
        go_upto_region 7 with fail
        rw [HW6.out]
        obtain ⟨da0, dc0, hdv⟩ := owns_shape H1.out.rm.ob
        have c2 := H1.out.rm.c2
        have hdl : (s.bs ++ List.replicate t 0).length = b0 + t := by rw [List.length_append, List.length_replicate, HZ.out.2.2.1]
        rw [hdv, hdl] at c2
        have fz2 := H1.out.rm.fz 2
        have hod := H1.out.rm.ob
        rw [hdv, hdl] at hod
        clear HW6 cR1 fR1
        go_wp2_with (first | (at_builtin; refine wpList_append_own_at _ rfl (.tmp 50) (.tmp 51) 22 rfl 0 5 i1 _ 1 1 Try.underlying22 hi1 hy0 hy1 hy2 rfl (by decide) _ _ _ rfl (hod.alloc _) ⟨w6.heap.size, 0, none⟩ 1 1 [.int .u8 0] rfl rfl ?m1 ?m2 ?m3 ?m4 ?m5 ?_))
        case m1 => exact one_newR _ _ _
        case m2 => intro u hu; simp at hu; subst hu; rfl
        case m3 => unfold maxLen; omega
        case m4 => omega
        case m5 => exact Nat.zero_le _
        intro u7 w7 r1 r2 _ r4
        obtain ⟨a7, z7, hu7⟩ := owns_shape r1
        have cc : Ch (fun q => v1.dv.ownBlock = some q) w6 w7 := (Ch.ofBelow (S := fun q => v1.dv.ownBlock = some q) ((Below.refl _ _).alloc (Nat.le_refl _) _)).trans (Ch.ofGrown r2) (fun _ _ q => by rw [hdv, hdl]; exact q)
        have hm := H1.out.moved (H1.out.rm.setD cc u7 (s.bs ++ List.replicate (t + 1) 0) (by
          have e1 : (s.bs ++ List.replicate (t + 1) 0).length = b0 + t + 1 := by rw [List.length_append, List.length_replicate, HZ.out.2.2.1]; omega
          have e2 : (toI (s.bs ++ List.replicate (t + 1) 0)).map (Value.int .u8) = (toI (s.bs ++ List.replicate t 0)).map (Value.int .u8) ++ [.int .u8 0] := by
            rw [List.replicate_succ', ← List.append_assoc]
            simp [toI]
          rw [e1, e2]
          exact r1) (fun q hq => by
          rcases r4 with z | z
          · exact .inl (by rw [hdv, hdl, ← z]; exact hq)
          · rw [z] at hq
            simp only [Option.some.injEq] at hq
            exact .inr (by omega)))
        obtain ⟨v2, h2, _, _⟩ := hm
        have cR2 : ∃ z, w7.cell? ⟨R, 2, none⟩ = some z := ⟨_, cc.cell H1.out.rm.c2 H1.out.rm.ndR⟩
        have fR2 : w7.frozen? ⟨R, 2, none⟩ = false := (cc.frozen (p := ⟨R, 2, none⟩) (H1.out.rm.lt R (.inl rfl)) H1.out.rm.ndR).trans fz2
        obtain ⟨zR2, cR2⟩ := cR2
        have H2 : Hid (∃ v0, WA w R v B (w7.setCell ⟨R, 2, none⟩ u7) s.mx (hsL s ++ List.replicate (t + 1) false) (s.bs ++ List.replicate (t + 1) 0) (eE s) s.tk.reverse v0) := ⟨v2, h2⟩
        have HLN : Hid (lnAt (w7.setCell ⟨R, 2, none⟩ u7) R = b0 + t + 1) := by
          show _ = _
          rw [h2.rm.ln, List.length_append, hsL_len, List.length_replicate, HZ.out.2.2.1]
          omega
        subst hu7
        clear h2 cc r1 r2 r4 hod hdv hdl H1 c2 fz2
        go_wp2
        go_roundw
        case rel => exact ⟨t + 1, htL, H2⟩
        case measure => rw [HLN.out, HLNH.out]; omega
end H11
end Go.Proofs.Ytcoaghcmbhogjaa
namespace Go.Proofs.Ytcoaghcmbhogjaa
open Go.RowKit Go.Maps
namespace H11
theorem two_newI (w : World) (p : Nat) (a b : Int) (ha : a = (p : Int)) (hb : b = ((p + 1 : Nat) : Int)) : ∀ j u, (gC [(p, p + 1)])[j]? = some u → (w.alloc (.cells #[.int .i64 a, .int .i64 b] 45)).cell? ((⟨w.heap.size, 0, none⟩ : Addr).add j) = some u := by
  subst ha hb
  exact two_new w p (p + 1)
theorem gC_set (P : List (Nat × Nat)) (a b c : Nat) : (gC (P ++ [(a, b)])).set (P.length * 2 + 1) (.int .i64 (c : Int)) = gC (P ++ [(a, c)]) := by
  rw [gC_app, gC_app, List.set_append_right _ _ (by rw [gC_len]; omega), gC_len, show P.length * 2 + 1 - P.length * 2 = 1 by omega]
  rfl
theorem gU_len (gs : List (Nat × Nat)) (i : Nat) : (gU gs i).length ≤ gs.length := by
  unfold gU
  rw [List.length_map]
  exact List.length_filter_le _ _
set_option maxRecDepth 100000 in
set_option maxHeartbeats 6400000 in
theorem gapsR_any (w : World) (R : Nat) (s : HS) (v : RV) (h : RAt w R s v) (hi : Inv s) :
    Calls Try.prog 29 #[.pointer (some ⟨R, 0, none⟩)] w fun r w' => ∃ u, r = .returned u ∧ w'.ownsRow w.heap.size 45 2 u s.gp.length (gC s.gp) ∧ Below w.heap.size w w' := by
  obtain ⟨i0, hi0, hz0, hz1, hz2⟩ := info_parts Try.infoGap
  obtain ⟨b, hbd⟩ : ∃ b, b = s.bd := ⟨_, rfl⟩
  have hb5 : b ≤ 65535 := by rw [hbd]; exact (HS.bd_le hi).1
  have HGL : Hid (∀ i, (gU s.gp i).length ≤ 65535) := by
    intro i
    have h1 := gU_len s.gp i
    have h2 := hi.ris.len
    have h3 := (HS.bd_le hi).1
    omega
  have QB : Hid (∀ A : World, Below w.heap.size w A → Calls Try.prog 45 #[.pointer (some ⟨R, 0, none⟩)] A fun r w' => r = .returned (.int .i64 (b : Int)) ∧ A = w') := fun A hA => by rw [hbd]; exact boundR_any A R s v (h.below hA)
  have QH : Hid (∀ (A : World) (i : Nat), i < b → Below w.heap.size w A → Calls Try.prog 46 #[.pointer (some ⟨R, 0, none⟩), .int .i64 (i : Int)] A fun r w' => r = .returned (.bool (!inB s.gp i)) ∧ A = w') := fun A i hib hA => heldAtR_any A R s v (h.below hA) hi i (by rw [← hbd]; exact hib)
  have HR : Hid (Ris 0 s.gp b) := by show Ris _ _ _; rw [hbd]; exact hi.ris
  clear h hi hbd
  go_enter Try.func29, Try.ntmps29
  go_wp2
  go_loopw [3, 4] (fun ov ix wr => ∃ k : Nat, k ≤ b ∧ ix = .int .i64 (k : Int) ∧ Hid (Below w.heap.size w wr) ∧ Hid (wr.ownsRow w.heap.size 45 2 ov (gU s.gp k).length (gC (gU s.gp k)))) (fun _ ix _ => b - (intOf ix).toNat)
  case atStart => exact ⟨0, Nat.zero_le _, rfl, Below.refl _ _, by show World.ownsRow _ _ _ _ _ _ _; rw [gU_zero]; exact World.ownsRow_nil _ _ _ _⟩
  case round =>
    obtain ⟨k, hk, rfl, HBW, HO⟩ := hrel
    go_wp2_with fail
    refine Calls.mono (QB.out _ HBW.out) ?_
    rintro e1 w1 ⟨rfl, rfl⟩
    by_cases hge : b ≤ k
    · obtain rfl : k = b := by omega
      have d : ¬ (k : Int) < (k : Int) := by omega
      clear hge
      have HF : Hid (gU s.gp k = s.gp) := gU_all HR.out
      rw [HF.out] at HO
      go_wp2
      go_ret
      exact ⟨_, rfl, HO.out, HBW.out⟩
    · have d : (k : Int) < (b : Int) := by omega
      have hkb : k < b := by omega
      clear hge
      obtain ⟨n, hn⟩ : ∃ n, n = (gU s.gp k).length := ⟨_, rfl⟩
      have hn5 : n ≤ 65535 := by rw [hn]; exact HGL.out k
      have HGn : Hid (n = (gU s.gp k).length) := hn
      rw [← hn] at HO
      clear hn
      go_wp2_with fail
      refine Calls.mono (QH.out _ k hkb HBW.out) ?_
      rintro e2 w2 ⟨rfl, rfl⟩
      cases hq : inB s.gp k with
      | false =>
        have HG : Hid (gU s.gp (k + 1) = gU s.gp k) := gU_held HR.out hq
        clear hq
        go_wp2
        go_roundw
        case rel => exact ⟨k + 1, by omega, by go_num, HBW, by show World.ownsRow _ _ _ _ _ _ _; rw [HG.out, ← HGn.out]; exact HO.out⟩
        case measure => simp [intOf]; omega
      | true =>
        obtain ⟨ua, uc, hsh⟩ := owns_shape HO.out
        subst hsh
        have wk : IntKind.i64.wrap ((k : Int) + 1) = (k : Int) + 1 := by rw [IntKind.wrap_i64]; omega
        have hb := HBW.out
        by_cases hk0 : k = 0
        · have HG : Hid (gU s.gp (k + 1) = gU s.gp k ++ [(k, k + 1)]) := gU_new HR.out hq (.inl hk0)
          have f0 : ((k : Int) == 0) = true := by rw [beq_iff_eq]; omega
          clear hq hk0
          as_aux_lemma =>
            have hlo : wr.heap.size = wr.heap.size := rfl
            have hlb := hb.size
            go_wp2_with (first | (at_builtin; refine wpList_append_own_at _ rfl (.tmp 32) (.tmp 37) 43 rfl w.heap.size 45 i0 _ 2 16 Try.underlying43 hi0 hz0 hz1 hz2 rfl (by decide) _ _ _ rfl (HO.out.alloc _) ⟨wr.heap.size, 0, none⟩ 1 1 (gC [(k, k + 1)]) rfl rfl ?ga1 ?ga2 ?ga3 ?ga4 ?ga5 ?_))
            case ga1 => exact two_newI _ _ _ _ rfl (by omega)
            case ga2 => exact gC_one _
            case ga3 => unfold maxLen; omega
            case ga4 => omega
            case ga5 => simp; omega
            intro u2 w2 q1 q2 _ _
            have hbA : Below w.heap.size w (wr.alloc (.cells #[.int .i64 (k : Int), .int .i64 ((k : Int) + 1)] 45)) := hb.alloc hb.size _
            have HB2 : Hid (Below w.heap.size w w2) := hbA.grown q2 hbA.size (fun q hq => (HO.out.lt q hq).1)
            have HO2 : Hid (w2.ownsRow w.heap.size 45 2 u2 (gU s.gp (k + 1)).length (gC (gU s.gp (k + 1)))) := by
              show w2.ownsRow _ _ _ _ _ _
              rw [HG.out, List.length_append, gC_app, ← HGn.out]
              exact q1
            clear q1 q2 hbA
            go_wp2
            go_roundw
            case rel => exact ⟨k + 1, by omega, by go_num, HB2, HO2⟩
            case measure => simp [intOf]; omega
        · have f0 : ((k : Int) == 0) = false := by rw [beq_eq_false_iff_ne]; omega
          have wm : IntKind.i64.wrap ((k : Int) - 1) = ((k - 1 : Nat) : Int) := by rw [IntKind.wrap_i64]; omega
          have QH1 := QH.out wr (k - 1) (by omega) HBW.out
          have HQ1 : Hid _ := QH1
          clear QH1
          go_wp2_with fail
          refine Calls.mono HQ1.out ?_
          rintro e3 w3 ⟨rfl, rfl⟩
          clear HQ1
          cases hq1 : inB s.gp (k - 1) with
          | false =>
            have HG : Hid (gU s.gp (k + 1) = gU s.gp k ++ [(k, k + 1)]) := gU_new HR.out hq (.inr hq1)
            clear hq hk0 hq1
            as_aux_lemma =>
              have hlo : wr.heap.size = wr.heap.size := rfl
              have hlb := hb.size
              go_wp2_with (first | (at_builtin; refine wpList_append_own_at _ rfl (.tmp 32) (.tmp 37) 43 rfl w.heap.size 45 i0 _ 2 16 Try.underlying43 hi0 hz0 hz1 hz2 rfl (by decide) _ _ _ rfl (HO.out.alloc _) ⟨wr.heap.size, 0, none⟩ 1 1 (gC [(k, k + 1)]) rfl rfl ?gb1 ?gb2 ?gb3 ?gb4 ?gb5 ?_))
              case gb1 => exact two_newI _ _ _ _ rfl (by omega)
              case gb2 => exact gC_one _
              case gb3 => unfold maxLen; omega
              case gb4 => omega
              case gb5 => simp; omega
              intro u2 w2 q1 q2 _ _
              have hbA : Below w.heap.size w (wr.alloc (.cells #[.int .i64 (k : Int), .int .i64 ((k : Int) + 1)] 45)) := hb.alloc hb.size _
              have HB2 : Hid (Below w.heap.size w w2) := hbA.grown q2 hbA.size (fun q hq => (HO.out.lt q hq).1)
              have HO2 : Hid (w2.ownsRow w.heap.size 45 2 u2 (gU s.gp (k + 1)).length (gC (gU s.gp (k + 1)))) := by
                show w2.ownsRow _ _ _ _ _ _
                rw [HG.out, List.length_append, gC_app, ← HGn.out]
                exact q1
              clear q1 q2 hbA
              go_wp2
              go_roundw
              case rel => exact ⟨k + 1, by omega, by go_num, HB2, HO2⟩
              case measure => simp [intOf]; omega
          | true =>
            obtain ⟨P, a, e1, e2⟩ := gU_more HR.out hq (by omega) hq1
            obtain ⟨q, hqq⟩ : ∃ q, q = P.length := ⟨_, rfl⟩
            have hnq : n = q + 1 := by rw [HGn.out, e1, List.length_append, hqq]; rfl
            have ho := HO.out
            rw [e1] at ho
            obtain ⟨g, rfl, _⟩ : ∃ g, ua = some ⟨g, 0, none⟩ ∧ True := by
              rcases ho.2 with ⟨_, z2⟩ | ⟨g, cap, cur, z1, _⟩
              · omega
              · simp only [Value.slice.injEq, true_and] at z1
                exact ⟨g, z1.1, trivial⟩
            have hcell : wr.cell? ⟨g, q * 2 + 1, none⟩ = some (.int .i64 (k : Int)) := by
              rw [ho.cellAt _ (by omega), gC_app, List.getElem?_append_right (by rw [gC_len, hqq]; omega), gC_len, ← hqq, show q * 2 + 1 - q * 2 = 1 by omega]
              rfl
            have hfz : wr.frozen? ⟨g, q * 2 + 1, none⟩ = false := ho.frozenAt _
            have hst := ho.stored (q * 2 + 1) (.int .i64 ((k : Int) + 1))
            have HS2 : Hid ((wr.setCell ⟨g, q * 2 + 1, none⟩ (.int .i64 ((k : Int) + 1))).ownsRow w.heap.size 45 2 (.slice (some ⟨g, 0, none⟩) n uc) (gU s.gp (k + 1)).length (gC (gU s.gp (k + 1)))) := by
              show World.ownsRow _ _ _ _ _ _ _
              have e3 : (gU s.gp (k + 1)).length = n := by rw [e2, List.length_append, ← hqq, hnq]; rfl
              rw [e3, e2, ← gC_set P a k (k + 1), ← hqq]
              exact hst.1
            have HB2 : Hid (Below w.heap.size w (wr.setCell ⟨g, q * 2 + 1, none⟩ (.int .i64 ((k : Int) + 1)))) := hb.grown hst.2 hb.size (fun x hx => by simp only [Option.some.injEq] at hx; subst hx; exact (ho.lt g rfl).1)
            have wn : IntKind.i64.wrap ((n : Int) - 1) = (q : Int) := by rw [IntKind.wrap_i64]; omega
            have dq : (q : Int) < (n : Int) := by omega
            clear hq hk0 hq1 e1 e2 hqq hnq ho hst HO HGn
            go_wp2
            go_roundw
            case rel => exact ⟨k + 1, by omega, by go_num, HB2, HS2⟩
            case measure => simp [intOf]; omega
end H11
end Go.Proofs.Ytcoaghcmbhogjaa
namespace Go.Proofs.Ytcoaghcmbhogjaa
open Go.RowKit Go.Maps
namespace H11
theorem putR_u (w : World) (R : Nat) (s : HS) (v : RV) (h : RAt w R s v) (hi : Inv s) (off : Int) (d : List Nat) (da : Option Addr) (c : Nat) (more : Bool) (h256 : ∀ x ∈ d, x < 256) (htk : s.tk.length ≤ 1000000) (hcn : d.length ≤ c) (hseg : Seg .u8 w da (toI d)) (hdn : ∀ x, d ≠ [] → da = some x → ¬ RB R v x.block) :
    Calls Try.prog 26 #[.pointer (some ⟨R, 0, none⟩), .int .i64 off, .slice da d.length c, .bool more] w fun r w' => r = .returned (.tuple #[.agg #[.int .i64 (pN s off d more : Nat), .int .i64 (pO s off d more), .bool (pM s off d more)], .int .i64 (rf s off d.length more)]) ∧ ∃ v', RAt w' R (pS s off d more) v' ∧ (∀ x, RB R v' x → RB R v x ∨ w.heap.size ≤ x) ∧ Ch (RB R v) w w' := by
  by_cases hr : rf s off d.length more = 0
  · obtain ⟨o, rfl, hok, _⟩ := rf_ok hr
    have hd : d ≠ [] := by intro e; have := hok.n1; rw [e] at this; simp at this
    have := putR_yes w R s v h hi d da c more h256 htk hcn hseg (fun x hx => hdn x hd hx) o hok hr
    unfold pN pO pM pS
    simp only [hr, if_true, decide_true, Bool.true_and, Int.toNat_natCast]
    exact this
  · have := putR_no w R s v h hi off d da c more hr
    unfold pN pO pM pS
    simp only [hr, if_false, decide_false, Bool.false_and]
    exact this.mono (fun e w' k => ⟨k.1, v, h.below k.2, fun x hx => .inl hx, Ch.ofBelow k.2⟩)

structure Ent where
  H : Nat
  R : Nat
  s : HS
  v : HV
  u : RV
def EB (e : Ent) (x : Nat) : Prop := HB e.H e.v x ∨ RB e.R e.u x
def pv (e : Ent) : Value := .agg #[.pointer (some ⟨e.H, 0, none⟩), .pointer (some ⟨e.R, 0, none⟩)]
structure EOk (w : World) (e : Ent) : Prop where
  h : HAt w e.H e.s e.v
  r : RAt w e.R e.s e.u
  inv : Inv e.s
  dis : ∀ x, HB e.H e.v x → ¬ RB e.R e.u x
theorem EOk.lt {w : World} {e : Ent} (h : EOk w e) : ∀ x, EB e x → x < w.heap.size := fun x hx => hx.elim (h.h.lt x) (h.r.lt x)
theorem EOk.ch {T : Nat → Prop} {w w' : World} {e : Ent} (h : EOk w e) (k : Ch T w w') (hT : ∀ x, EB e x → ¬ T x) : EOk w' e :=
  ⟨h.h.ch k (fun x hx => hT x (.inl hx)), h.r.ch k (fun x hx => hT x (.inr hx)), h.inv, h.dis⟩
theorem EOk.below {w w' : World} {e : Ent} (h : EOk w e) (k : Below w.heap.size w w') : EOk w' e := h.ch (Ch.ofBelow (S := fun _ => False) k) (fun _ _ => id)
/-- what a call leaves of a pair: the numbers are s' -/
def EMd (w : World) (e : Ent) (s' : HS) (w' : World) : Prop := ∃ e', EOk w' e' ∧ e'.H = e.H ∧ e'.R = e.R ∧ e'.s = s' ∧ (∀ x, EB e' x → EB e x ∨ w.heap.size ≤ x) ∧ Ch (EB e) w w'
/-- the program's Put, then the document's -/
theorem EOk.put1 {w w1 : World} {e : Ent} {s' : HS} (h : EOk w e) (m : Moved w e.H e.v w1 s') : ∃ v', HAt w1 e.H s' v' ∧ RAt w1 e.R e.s e.u ∧ (∀ x, HB e.H v' x → HB e.H e.v x ∨ w.heap.size ≤ x) ∧ Ch (EB e) w w1 ∧ ∀ x, HB e.H v' x → ¬ RB e.R e.u x := by
  obtain ⟨v', m1, m2, m3⟩ := m
  refine ⟨v', m1, h.r.ch m3 (fun x hx q => h.dis x q hx), m2, m3.mono (fun x _ q => .inl q), ?_⟩
  intro x hx q
  rcases m2 x hx with k | k
  · exact h.dis x k q
  · have := h.r.lt x q; omega
theorem put2 {w w1 w2 : World} {e : Ent} {s' : HS} {v' : HV} (h1 : HAt w1 e.H s' v') (hi : Inv s') (k1 : ∀ x, HB e.H v' x → HB e.H e.v x ∨ w.heap.size ≤ x) (c1 : Ch (EB e) w w1) (hd : ∀ x, HB e.H v' x → ¬ RB e.R e.u x) {u' : RV} (h2 : RAt w2 e.R s' u') (k2 : ∀ x, RB e.R u' x → RB e.R e.u x ∨ w1.heap.size ≤ x) (c2 : Ch (RB e.R e.u) w1 w2) : EMd w e s' w2 := by
  refine ⟨⟨e.H, e.R, s', v', u'⟩, ⟨h1.ch c2 (fun x hx q => hd x hx q), h2, hi, ?_⟩, rfl, rfl, rfl, ?_, c1.trans c2 (fun x _ q => .inr q)⟩
  · intro x hx q
    rcases k2 x q with z | z
    · exact hd x hx z
    · have := h1.lt x hx; omega
  · rintro x (hx | hx)
    · rcases k1 x hx with z | z
      · exact .inl (.inl z)
      · exact .inr z
    · rcases k2 x hx with z | z
      · exact .inl (.inr z)
      · exact .inr (Nat.le_trans c1.size z)
theorem Try.sizePr : (Try.prog.info? 56).map (·.size) = some 2 := by kernel_rfl
def PrAt (w : World) (O : Nat) (C : Array Value) : Prop := w.heap[O]? = some (.cells C 56 (0, 0))
theorem PrAt.lt {w : World} {O : Nat} {C : Array Value} (k : PrAt w O C) : O < w.heap.size := (Array.getElem?_eq_some_iff.1 k).1
theorem PrAt.ch {w : World} {O : Nat} {C : Array Value} (k : PrAt w O C) {S : Nat → Prop} {w' : World} (h : Ch S w w') (hS : ¬ S O) : PrAt w' O C := (h.block O k.lt hS).trans k
theorem PrAt.below {w : World} {O : Nat} {C : Array Value} (k : PrAt w O C) {w' : World} (h : Below w.heap.size w w') : PrAt w' O C := (h.block O k.lt).trans k
theorem PrAt.cell {w : World} {O : Nat} {C : Array Value} (k : PrAt w O C) (i : Nat) : w.cell? ⟨O, i, none⟩ = C[i]? := by unfold PrAt at k; simp [World.cell?, k]
theorem PrAt_new (w : World) (C : Array Value) : PrAt (w.alloc (.cells C 56)) w.heap.size C := heap_alloc_new _ _
theorem wpList_load_Pr {ops : Array Oper} {rest : List Oper} {o : Oper} {a : Act} {w : World} {Q : Exit → Act → World → Prop} (x : Operand) (ho : o.op = .load 56 x) (O : Nat) (C : Array Value) (hC : C.size = 2) (hx : a.eval x = .pointer (some ⟨O, 0, none⟩)) (hb : PrAt w O C)
    (hw : Region.wanted o (yielded ops a.tmps) = true) (hh : wpList Try.prog ops Q rest (a.put o.dst (.agg C)) w) : wpList Try.prog ops Q (o :: rest) a w := by
  refine wpList_step fun K hK => ?_
  rw [if_pos hw]
  exact wp_load_row 56 x ho O hx _ _ _ _ hb Try.underlying56 rfl (by rw [hC]; exact Try.sizePr) (hK _ _ hh)
theorem wpList_store_Pr {ops : Array Oper} {rest : List Oper} {o : Oper} {a : Act} {w : World} {Q : Exit → Act → World → Prop} (x y : Operand) (ho : o.op = .store 56 x y) (hd : o.dst = none) (O : Nat) (C C' : Array Value) (hC : C.size = 2) (hC' : C'.size = 2) (h1 : (C'.all fun x => x.oneCell') = true) (hx : a.eval x = .pointer (some ⟨O, 0, none⟩)) (hy : a.eval y = .agg C') (hb : PrAt w O C)
    (hw : Region.wanted o (yielded ops a.tmps) = true) (hh : ∀ w', PrAt w' O C' → Ch (fun q => q = O) w w' → wpList Try.prog ops Q rest a w') : wpList Try.prog ops Q (o :: rest) a w := by
  refine wpList_step fun K hK => ?_
  rw [if_pos hw]
  refine wp_store_row 56 x y ho O C' hx hy _ C hb (by rw [hC']; exact Try.sizePr) (by rw [hC, hC']) h1 (hK _ _ ?_)
  rw [hd]
  refine hh _ (setRow_heap w O _ _ _ _ hb) ⟨rfl, rfl, rfl, ?_, ?_⟩
  · simp [World.setRow]
  · intro k hk hne
    simp only [World.setRow]
    rw [Array.getElem?_modify, if_neg (fun e => hne e.symm)]
theorem results_pr {fn : Func} {p u : Tmp} (h : fn.results = #[.cell p 56, .tmp u]) (tmps : Array Value) (w : World) (O : Nat) (C : Array Value) (hC : C.size = 2) (hp : tmps.getD p undef = .pointer (some ⟨O, 0, none⟩)) (hb : PrAt w O C) :
    (results fn tmps).run Try.prog w = .ok (.tuple #[.agg C, tmps.getD u undef]) w := by
  rw [results_cell_tmp h tmps Try.prog w, hp]
  simp [asAddr, run_loadVar_row w O _ 56 C _ _ hb Try.underlying56 rfl (by rw [hC]; exact Try.sizePr), Result.andThen]
end H11
end Go.Proofs.Ytcoaghcmbhogjaa
namespace Go.Proofs.Ytcoaghcmbhogjaa
open Go.RowKit Go.Maps
namespace H11
theorem pr_one (a b : Option Addr) : ((#[.pointer a, .pointer b] : Array Value).all fun x => x.oneCell') = true := by simp [Value.oneCell']
theorem two_boxes (w : World) (C D : Array Value) : ∃ W : World, W = (w.alloc (.cells C 56)).alloc (.cells D 56) ∧ PrAt W w.heap.size C ∧ PrAt W (w.heap.size + 1) D ∧ Below w.heap.size w W ∧ W.heap.size = w.heap.size + 2 := by
  have hb1 : Below w.heap.size w (w.alloc (.cells C 56)) := (Below.refl _ _).alloc (Nat.le_refl _) _
  have hs1 : (w.alloc (.cells C 56)).heap.size = w.heap.size + 1 := by simp
  refine ⟨_, rfl, ?_, ?_, hb1.alloc hb1.size _, by simp⟩
  · exact PrAt.below (PrAt_new _ _) ((Below.refl _ _).alloc (Nat.le_refl _) _)
  · rw [← hs1]; exact PrAt_new _ _
set_option maxRecDepth 100000 in
set_option maxHeartbeats 3200000 in
theorem made_yes (w : World) (m : Nat) (h1 : 1 ≤ m) (h2 : m ≤ 65535) (a b : Option Addr) :
    Calls Try.prog 21 #[.int .i64 (m : Int), .agg #[.pointer a, .pointer b]] w fun r w' => ∃ e, r = .returned (.tuple #[pv e, .bool true]) ∧ EOk w' e ∧ e.s = nw m ∧ (∀ x, EB e x → w.heap.size ≤ x) ∧ Below w.heap.size w w' := by
  obtain ⟨W, hW, hp0, hp1, hbW, hWs⟩ := two_boxes w #[.pointer a, .pointer b] #[.pointer none, .pointer none]
  obtain ⟨B, hB⟩ : ∃ B, B = w.heap.size := ⟨_, rfl⟩
  rw [← hB] at hp0 hp1
  have HW : Hid ((w.alloc (.cells #[.pointer a, .pointer b] 56)).alloc (.cells #[.pointer none, .pointer none] 56) = W ∧ w.heap.size = B ∧ W.heap.size = B + 2) := ⟨hW.symm, hB.symm, by omega⟩
  have QN : Hid _ := new_yes W m h1 h2
  have QR : Hid (∀ A : World, _) := fun A => newR_yes A m h1 h2
  have HI : Hid (Inv (nw m)) := nw_inv m h1 h2
  have HP : Hid (PrAt W (B + 1) #[.pointer none, .pointer none] ∧ Below w.heap.size w W) := ⟨hp1, hbW⟩
  clear hW hB hp0 hp1 hbW hWs h1 h2
  go_enter Try.func21, Try.ntmps21
  go_upto_region 1 with fail
  (try simp only [World.size_alloc])
  rw [HW.out.1, HW.out.2.1]
  go_wp2_with fail
  refine Calls.mono QN.out ?_
  rintro e1 w1 ⟨H, v, rfl, hat, hlo, hb1⟩
  have H1 : Hid (HAt w1 H (nw m) v ∧ (∀ x, HB H v x → W.heap.size ≤ x) ∧ Below W.heap.size W w1) := ⟨hat, hlo, hb1⟩
  clear hat hlo hb1 QN
  go_wp2_with fail
  refine Calls.mono (QR.out _) ?_
  rintro e2 w2 ⟨R, u, rfl, hat2, hlo2, hb2⟩
  have hP2 : PrAt w2 (B + 1) #[.pointer none, .pointer none] := (HP.out.1.below H1.out.2.2).below hb2
  have H2 : Hid (EOk w2 ⟨H, R, nw m, v, u⟩ ∧ (∀ x, EB ⟨H, R, nw m, v, u⟩ x → W.heap.size ≤ x) ∧ Below w.heap.size w w2) := by
    refine ⟨⟨H1.out.1.below hb2, hat2, HI.out, fun x hx q => ?_⟩, ?_, (HP.out.2.trans (H1.out.2.2.mono HP.out.2.size)).trans (hb2.mono (Nat.le_trans HP.out.2.size H1.out.2.2.size))⟩
    · have := hlo2 x q
      have := H1.out.1.lt x hx
      omega
    · rintro x (hx | hx)
      · exact H1.out.2.1 x hx
      · exact Nat.le_trans H1.out.2.2.size (hlo2 x hx)
  clear hat2 hlo2 hb2 QR H1
  go_wp2_with (first | (refine wpList_store_Pr (.tmp 4) (.tmp 36) rfl rfl (B + 1) _ #[.pointer (some ⟨H, 0, none⟩), .pointer (some ⟨R, 0, none⟩)] rfl rfl (pr_one _ _) rfl rfl hP2 rfl ?_))
  intro w3 hP3 k3
  have HF : Hid (PrAt w3 (B + 1) #[.pointer (some ⟨H, 0, none⟩), .pointer (some ⟨R, 0, none⟩)] ∧ EOk w3 ⟨H, R, nw m, v, u⟩ ∧ Below w.heap.size w w3) := by
    have hsz := HW.out.2
    refine ⟨hP3, H2.out.1.ch k3 (fun x hx q => ?_), H2.out.2.2.trans (k3.below (fun q e => ?_) H2.out.2.2.size)⟩
    · have e' : x = B + 1 := q
      have := H2.out.2.1 x hx
      omega
    · have e' : q = B + 1 := e
      omega
  clear hP3 k3 hP2
  go_wp2
  (try simp only [Exit.inBlock, Exit.then])
  refine bodyPost_ret (results_pr rfl _ _ (B + 1) _ rfl rfl HF.out.1) rfl ?_
  refine ⟨⟨H, R, nw m, v, u⟩, rfl, HF.out.2.1, rfl, fun x hx => ?_, HF.out.2.2⟩
  have h1 := H2.out.2.1 x hx
  have h2 := HW.out.2
  omega
set_option maxRecDepth 100000 in
set_option maxHeartbeats 3200000 in
theorem made_no (w : World) (m : Int) (hm : ¬ (1 ≤ m ∧ m ≤ 65535)) (a b : Option Addr) :
    Calls Try.prog 21 #[.int .i64 m, .agg #[.pointer a, .pointer b]] w fun r w' => r = .returned (.tuple #[.agg #[.pointer a, .pointer b], .bool true]) ∧ Below w.heap.size w w' := by
  obtain ⟨W, hW, hp0, hp1, hbW, hWs⟩ := two_boxes w #[.pointer a, .pointer b] #[.pointer none, .pointer none]
  obtain ⟨B, hB⟩ : ∃ B, B = w.heap.size := ⟨_, rfl⟩
  rw [← hB] at hp0 hp1
  have HW : Hid ((w.alloc (.cells #[.pointer a, .pointer b] 56)).alloc (.cells #[.pointer none, .pointer none] 56) = W ∧ w.heap.size = B ∧ W.heap.size = B + 2) := ⟨hW.symm, hB.symm, by omega⟩
  have QN : Hid _ := new_no W m hm
  have QR : Hid _ := newR_no W m hm
  have HP : Hid (Below w.heap.size w W) := hbW
  clear hW hB hbW hWs hm
  go_enter Try.func21, Try.ntmps21
  go_upto_region 1 with fail
  (try simp only [World.size_alloc])
  rw [HW.out.1, HW.out.2.1]
  go_wp2_with fail
  refine Calls.mono QN.out ?_
  rintro e1 w1 ⟨rfl, rfl⟩
  clear QN
  go_wp2_with fail
  refine Calls.mono QR.out ?_
  rintro e2 w2 ⟨rfl, rfl⟩
  clear QR
  go_wp2_with (first | (refine wpList_load_Pr (.tmp 3) rfl B _ rfl rfl hp0 rfl ?_) | (refine wpList_store_Pr (.tmp 4) (.tmp 33) rfl rfl (B + 1) _ #[.pointer a, .pointer b] rfl rfl (pr_one _ _) rfl rfl hp1 rfl ?_))
  intro w3 hP3 k3
  have HF : Hid (PrAt w3 (B + 1) #[.pointer a, .pointer b] ∧ Below w.heap.size w w3) := by
    have hsz := HW.out.2
    refine ⟨hP3, HP.out.trans (k3.below (fun q e => ?_) HP.out.size)⟩
    have e' : q = B + 1 := e
    omega
  clear hP3 k3 hp0 hp1
  go_wp2
  (try simp only [Exit.inBlock, Exit.then])
  refine bodyPost_ret (results_pr rfl _ _ (B + 1) _ rfl rfl HF.out.1) rfl ?_
  exact ⟨rfl, HF.out.2⟩
end H11
end Go.Proofs.Ytcoaghcmbhogjaa
