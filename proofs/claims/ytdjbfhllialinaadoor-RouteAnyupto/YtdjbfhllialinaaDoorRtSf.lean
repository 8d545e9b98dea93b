/-
  Layer 14: slices.SortFunc, laid at the routes' own instance; order is a strict weak order.
-/
import Derived.Test.YtdjbfhllialinaaDoorRtAl
import Derived.Shelf.SlSortCmp.WholeK
import Derived.Shelf.Lay
import Derived.Ground.SlsfProg
namespace Go.Proofs
open Go.Shelf Go.RowKit Go.Lib Go.Sort
shelf_lay_g SlLaysF0.n6 Slsf 6 at Tryd 25 as YtdjbfhllialinaaDoor.sortRt
end Go.Proofs
namespace Go.Proofs.YtdjbfhllialinaaDoor
open Go.RowKit Go.Maps

def cB (a b : RV) : Int := Lib.compareBytes (by16 a.p.x) (by16 b.p.x)
def lt3 (a b : RV) : Prop := a.p.V < b.p.V ∨ (a.p.V = b.p.V ∧ (cB a b < 0 ∨ (by16 a.p.x = by16 b.p.x ∧ a.p.n < b.p.n)))
def ge3 (a b : RV) : Prop := b.p.V < a.p.V ∨ (a.p.V = b.p.V ∧ (cB b a < 0 ∨ (by16 a.p.x = by16 b.p.x ∧ b.p.n ≤ a.p.n)))
theorem cB_asym {a b : RV} (h : cB a b < 0) : ¬ cB b a < 0 := cmp_asym _ _ h
theorem cB_tri (a b : RV) : cB a b < 0 ∨ cB b a < 0 ∨ by16 a.p.x = by16 b.p.x := by
  by_cases h1 : cB a b < 0
  · exact .inl h1
  · by_cases h2 : cB b a < 0
    · exact .inr (.inl h2)
    · exact .inr (.inr (cmp_eq0 _ _ (by rw [by16_len, by16_len]) h1 h2))
theorem cB_eq {a b : RV} (h : by16 a.p.x = by16 b.p.x) : ¬ cB a b < 0 := by unfold cB; rw [h, cmp_self]; omega
theorem less_iff (a b : RV) : lessB a.p.V b.p.V a.p.x b.p.x = true ↔ (a.p.V < b.p.V ∨ (a.p.V = b.p.V ∧ cB a b < 0)) := by
  unfold lessB cB
  by_cases h : a.p.V = b.p.V
  · rw [if_pos h]; simp; omega
  · rw [if_neg h]; simp; omega
theorem ord_lt (a b : RV) : ordV a b < 0 ↔ lt3 a b := by
  unfold ordV lt3
  by_cases h1 : lessB a.p.V b.p.V a.p.x b.p.x = true
  · rw [if_pos h1]
    have := (less_iff a b).1 h1
    constructor
    · intro _
      rcases this with e | ⟨e1, e2⟩
      · exact .inl e
      · exact .inr ⟨e1, .inl e2⟩
    · intro _; omega
  · rw [if_neg h1]
    have n1 : ¬ (a.p.V < b.p.V ∨ (a.p.V = b.p.V ∧ cB a b < 0)) := fun e => h1 ((less_iff a b).2 e)
    by_cases h2 : lessB b.p.V a.p.V b.p.x a.p.x = true
    · rw [if_pos h2]
      have := (less_iff b a).1 h2
      constructor
      · intro h; omega
      · rintro (e | ⟨e1, e2 | ⟨e2, e3⟩⟩)
        · exact absurd (.inl e) n1
        · exact absurd (.inr ⟨e1, e2⟩) n1
        · rcases this with e | ⟨_, e⟩
          · omega
          · exact absurd e (cB_eq e2.symm)
    · rw [if_neg h2]
      have n2 : ¬ (b.p.V < a.p.V ∨ (b.p.V = a.p.V ∧ cB b a < 0)) := fun e => h2 ((less_iff b a).2 e)
      have hV : a.p.V = b.p.V := by omega
      have hB : by16 a.p.x = by16 b.p.x := by
        rcases cB_tri a b with e | e | e
        · exact absurd (.inr ⟨hV, e⟩) n1
        · exact absurd (.inr ⟨hV.symm, e⟩) n2
        · exact e
      constructor
      · intro h
        refine .inr ⟨hV, .inr ⟨hB, ?_⟩⟩
        by_cases h3 : a.p.n < b.p.n
        · exact h3
        · rw [if_neg h3] at h
          split at h <;> omega
      · rintro (e | ⟨e1, e2 | ⟨e2, e3⟩⟩)
        · omega
        · exact absurd (.inr ⟨e1, e2⟩) n1
        · rw [if_pos e3]; omega
theorem not_lt3 (a b : RV) : ¬ lt3 a b ↔ ge3 a b := by
  unfold lt3 ge3
  constructor
  · intro h
    rcases Int.lt_trichotomy a.p.V b.p.V with e | e | e
    · exact absurd (.inl e) h
    · refine .inr ⟨e, ?_⟩
      rcases cB_tri a b with c | c | c
      · exact absurd (.inr ⟨e, .inl c⟩) h
      · exact .inl c
      · refine .inr ⟨c, ?_⟩
        by_cases hn : a.p.n < b.p.n
        · exact absurd (.inr ⟨e, .inr ⟨c, hn⟩⟩) h
        · omega
    · exact .inl e
  · rintro (e | ⟨e, c | ⟨c, hn⟩⟩) (k | ⟨k, d | ⟨d, hm⟩⟩)
    · omega
    · omega
    · omega
    · omega
    · exact cB_asym d c
    · exact cB_eq d.symm c
    · omega
    · exact cB_eq c d
    · omega
theorem ge3_trans {a b c : RV} (h : ge3 a b) (k : ge3 b c) : ge3 a c := by
  unfold ge3 at *
  rcases h with h | ⟨h, h1 | ⟨h1, h2⟩⟩
  · rcases k with k | ⟨k, _⟩
    · left; omega
    · left; omega
  · rcases k with k | ⟨k, k1 | ⟨k1, k2⟩⟩
    · left; omega
    · exact .inr ⟨h.trans k, .inl (cmp_trans _ _ _ k1 h1)⟩
    · refine .inr ⟨h.trans k, .inl ?_⟩
      unfold cB at h1 ⊢
      rw [← k1]; exact h1
  · rcases k with k | ⟨k, k1 | ⟨k1, k2⟩⟩
    · left; omega
    · refine .inr ⟨h.trans k, .inl ?_⟩
      unfold cB at k1 ⊢
      rw [h1]; exact k1
    · exact .inr ⟨h.trans k, .inr ⟨h1.trans k1, by omega⟩⟩
theorem lt3_trans {a b c : RV} (h : lt3 a b) (k : lt3 b c) : lt3 a c := by
  unfold lt3 at *
  rcases h with h | ⟨h, h1 | ⟨h1, h2⟩⟩
  · rcases k with k | ⟨k, _⟩
    · left; omega
    · left; omega
  · rcases k with k | ⟨k, k1 | ⟨k1, k2⟩⟩
    · left; omega
    · exact .inr ⟨h.trans k, .inl (cmp_trans _ _ _ h1 k1)⟩
    · refine .inr ⟨h.trans k, .inl ?_⟩
      unfold cB at h1 ⊢
      rw [← k1]; exact h1
  · rcases k with k | ⟨k, k1 | ⟨k1, k2⟩⟩
    · left; omega
    · refine .inr ⟨h.trans k, .inl ?_⟩
      unfold cB at k1 ⊢
      rw [h1]; exact k1
    · exact .inr ⟨h.trans k, .inr ⟨h1.trans k1, by omega⟩⟩
theorem ord_swo : Go.Sort.SWO (Go.Proofs.ltOf ordV) where
  irrefl x := by
    unfold Go.Proofs.ltOf
    rw [decide_eq_false_iff_not, ord_lt, not_lt3]
    exact .inr ⟨rfl, .inr ⟨rfl, Int.le_refl _⟩⟩
  trans x y z h1 h2 := by
    unfold Go.Proofs.ltOf at *
    rw [decide_eq_true_iff, ord_lt] at *
    exact lt3_trans h1 h2
  ntrans x y z h1 h2 := by
    unfold Go.Proofs.ltOf at *
    rw [decide_eq_false_iff_not, ord_lt, not_lt3] at *
    exact ge3_trans h1 h2
instance : Inhabited RV := ⟨rz⟩
theorem order_lays (blk off size : Nat) (w : World) : Go.Proofs.CmpLays Tryd.prog 26 #[] rcL 36 ordV blk off size w := fun _ _ _ _ a b => (order_gr a b _).mono fun _ _ ⟨he, hg⟩ => ⟨he, hg.grow⟩
end Go.Proofs.YtdjbfhllialinaaDoor
