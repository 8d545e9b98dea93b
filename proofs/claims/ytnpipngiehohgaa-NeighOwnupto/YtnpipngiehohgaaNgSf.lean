/-
  Layer 15: the entries' order; slices.SortFunc, laid at the keys' own instance.
-/
import Derived.Test.YtnpipngiehohgaaNgLs
import Derived.Shelf.SlSortCmp.WholeK
import Derived.Shelf.Lay
import Derived.Ground.SlsfProg
namespace Go.Proofs
open Go.Shelf Go.RowKit Go.Lib Go.Sort
shelf_lay_g SlLaysF0.n6 Slsf 6 at Try 54 as Ytnpipngiehohgaa.sortRt
end Go.Proofs
namespace Go.Proofs.Ytnpipngiehohgaa
open Go.RowKit Go.Maps

def cB (a b : KV) : Int := Lib.compareBytes (by16 a.x) (by16 b.x)
def lt3 (a b : KV) : Prop := a.pt < b.pt ∨ (a.pt = b.pt ∧ (a.V < b.V ∨ (a.V = b.V ∧ cB a b < 0)))
def ge3 (a b : KV) : Prop := b.pt < a.pt ∨ (a.pt = b.pt ∧ (b.V < a.V ∨ (a.V = b.V ∧ (cB b a < 0 ∨ by16 a.x = by16 b.x))))
theorem cB_asym {a b : KV} (h : cB a b < 0) : ¬ cB b a < 0 := cmp_asym _ _ h
theorem cB_tri (a b : KV) : cB a b < 0 ∨ cB b a < 0 ∨ by16 a.x = by16 b.x := by
  by_cases h1 : cB a b < 0
  · exact .inl h1
  · by_cases h2 : cB b a < 0
    · exact .inr (.inl h2)
    · exact .inr (.inr (cmp_eq0 _ _ (by rw [by16_len, by16_len]) h1 h2))
theorem cB_eq {a b : KV} (h : by16 a.x = by16 b.x) : ¬ cB a b < 0 := by unfold cB; rw [h, cmp_self]; omega
theorem ci_cases (a b : Int) : (a < b ∧ ciV a b = -1) ∨ (a = b ∧ ciV a b = 0) ∨ (b < a ∧ ciV a b = 1) := by
  unfold ciV
  by_cases h1 : a < b
  · rw [if_pos h1]; exact .inl ⟨h1, rfl⟩
  · by_cases h2 : b < a
    · rw [if_neg h1, if_pos h2]; exact .inr (.inr ⟨h2, rfl⟩)
    · rw [if_neg h1, if_neg h2]; exact .inr (.inl ⟨by omega, rfl⟩)
theorem ord_lt (a b : KV) : ordV a b < 0 ↔ lt3 a b := by
  unfold ordV lt3 orV
  show _ ↔ a.pt < b.pt ∨ (a.pt = b.pt ∧ (a.V < b.V ∨ (a.V = b.V ∧ Lib.compareBytes (by16 a.x) (by16 b.x) < 0)))
  rcases ci_cases a.pt b.pt with ⟨h1, e1⟩ | ⟨h1, e1⟩ | ⟨h1, e1⟩
  · rw [e1, if_pos (by omega)]
    exact ⟨fun _ => .inl h1, fun _ => by omega⟩
  · rw [e1, if_neg (by omega)]
    rcases ci_cases a.V b.V with ⟨h2, e2⟩ | ⟨h2, e2⟩ | ⟨h2, e2⟩
    · rw [e2, if_pos (by omega)]
      exact ⟨fun _ => .inr ⟨h1, .inl h2⟩, fun _ => by omega⟩
    · rw [e2, if_neg (by omega)]
      constructor
      · intro h; exact .inr ⟨h1, .inr ⟨h2, h⟩⟩
      · rintro (h | ⟨_, h | ⟨_, h⟩⟩)
        · omega
        · omega
        · exact h
    · rw [e2, if_pos (by omega)]
      constructor
      · intro h; omega
      · rintro (h | ⟨_, h | ⟨h, _⟩⟩) <;> omega
  · rw [e1, if_pos (by omega)]
    constructor
    · intro h; omega
    · rintro (h | ⟨h, _⟩) <;> omega
theorem not_lt3 (a b : KV) : ¬ lt3 a b ↔ ge3 a b := by
  unfold lt3 ge3
  constructor
  · intro h
    rcases Int.lt_trichotomy a.pt b.pt with e | e | e
    · exact absurd (.inl e) h
    · refine .inr ⟨e, ?_⟩
      rcases Int.lt_trichotomy a.V b.V with f | f | f
      · exact absurd (.inr ⟨e, .inl f⟩) h
      · refine .inr ⟨f, ?_⟩
        rcases cB_tri a b with c | c | c
        · exact absurd (.inr ⟨e, .inr ⟨f, c⟩⟩) h
        · exact .inl c
        · exact .inr c
      · exact .inl f
    · exact .inl e
  · rintro (e | ⟨e, f | ⟨f, c | c⟩⟩) (k | ⟨k, l | ⟨l, d⟩⟩)
    all_goals first | omega | exact cB_asym d c | exact cB_eq c d
theorem lt3_trans {a b c : KV} (h : lt3 a b) (k : lt3 b c) : lt3 a c := by
  unfold lt3 at *
  rcases h with h | ⟨h, h1 | ⟨h1, h2⟩⟩ <;> rcases k with k | ⟨k, k1 | ⟨k1, k2⟩⟩
  all_goals first | (left; omega) | exact .inr ⟨h.trans k, .inl (by omega)⟩ | exact .inr ⟨h.trans k, .inr ⟨h1.trans k1, cmp_trans _ _ _ h2 k2⟩⟩
theorem ge3_trans {a b c : KV} (h : ge3 a b) (k : ge3 b c) : ge3 a c := by
  unfold ge3 at *
  rcases h with h | ⟨h, h1 | ⟨h1, h2⟩⟩ <;> rcases k with k | ⟨k, k1 | ⟨k1, k2⟩⟩
  all_goals first | (left; omega) | exact .inr ⟨h.trans k, .inl (by omega)⟩ | skip
  refine .inr ⟨h.trans k, .inr ⟨h1.trans k1, ?_⟩⟩
  rcases h2 with h2 | h2 <;> rcases k2 with k2 | k2
  · exact .inl (cmp_trans _ _ _ k2 h2)
  · left; unfold cB at h2 ⊢; rw [← k2]; exact h2
  · left; unfold cB at k2 ⊢; rw [h2]; exact k2
  · exact .inr (h2.trans k2)
theorem lt3_irr (a : KV) : ¬ lt3 a a := (not_lt3 a a).2 (.inr ⟨rfl, .inr ⟨rfl, .inr rfl⟩⟩)
theorem by16_same' (x y : Nat → Nat) (hx : ∀ i, i < 16 → x i < 256) (hy : ∀ i, i < 16 → y i < 256) (h : by16 x = by16 y) : same16 x y = true := by
  rw [same16_iff]
  intro i hi
  have h1 : (by16 x)[i]? = (by16 y)[i]? := by rw [h]
  simp [by16, Lib.bytesOf, toI, ipL, hi] at h1
  have h2 := congrArg UInt8.toNat h1
  have h3 := hx i hi
  have h4 := hy i hi
  simp at h2
  omega
/-- two keys that are not the same: one comes first -/
theorem tri (a b : KV) (ha : a.Wf) (hb : b.Wf) : lt3 a b ∨ lt3 b a ∨ eqP a b = true := by
  by_cases h1 : lt3 a b
  · exact .inl h1
  · have g1 := (not_lt3 a b).1 h1
    unfold ge3 at g1
    rcases g1 with g | ⟨g, f | ⟨f, c | c⟩⟩
    · exact .inr (.inl (.inl g))
    · exact .inr (.inl (.inr ⟨g.symm, .inl f⟩))
    · exact .inr (.inl (.inr ⟨g.symm, .inr ⟨f.symm, c⟩⟩))
    · refine .inr (.inr ?_)
      unfold eqP
      rw [by16_same' a.x b.x ha.x hb.x c, g, f]
      simp
theorem lt3_ne {a b : KV} (h : lt3 a b) : eqP a b = false := by
  rw [Bool.eq_false_iff]
  intro e
  have e' := (eqP_iff a b).1 e
  unfold eqP at e
  simp only [Bool.and_eq_true, beq_iff_eq] at e
  unfold lt3 at h
  rcases h with h | ⟨_, h | ⟨_, h⟩⟩
  · omega
  · omega
  · exact cB_eq (same_by16 _ _ e.2) h
theorem ord_swo : Go.Sort.SWO (Go.Proofs.ltOf ordV) where
  irrefl x := by
    unfold Go.Proofs.ltOf
    rw [decide_eq_false_iff_not, ord_lt, not_lt3]
    exact .inr ⟨rfl, .inr ⟨rfl, .inr rfl⟩⟩
  trans x y z h1 h2 := by
    unfold Go.Proofs.ltOf at *
    rw [decide_eq_true_iff, ord_lt] at *
    exact lt3_trans h1 h2
  ntrans x y z h1 h2 := by
    unfold Go.Proofs.ltOf at *
    rw [decide_eq_false_iff_not, ord_lt, not_lt3] at *
    exact ge3_trans h1 h2
instance : Inhabited KV := ⟨kz⟩
def kcL (k : KV) : List Value := (kC k).toList
theorem kcL_len (k : KV) : (kcL k).length = 18 := rfl
theorem order_lays (blk off size : Nat) (w : World) : Go.Proofs.CmpLays Try.prog 55 #[] kcL 18 ordV blk off size w := fun _ _ _ _ a b => (order_gr a b _).mono fun _ _ ⟨he, hg⟩ => ⟨he, hg.grow⟩
end Go.Proofs.Ytnpipngiehohgaa
