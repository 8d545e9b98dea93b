/-
  Layer 14: slices.SortFunc, laid at the routes' own instance; order is a strict weak order.
-/
import Derived.Test.YtdjbfhllialinaaDoorRtAl
import Derived.Shelf.SlSortCmp.WholeK
import Derived.Ground.SlsfProg
namespace Go.Proofs
open Go.Shelf Go.RowKit Go.Lib Go.Sort
def YtdjbfhllialinaaDoor.sortRt_ren : Go.Shelf.Ren := ⟨fun | 6 => 25 | 15 => 30 | 14 => 29 | 28 => 41 | 29 => 42 | 20 => 33 | 21 => 34 | 22 => 35 | 23 => 36 | 24 => 37 | 25 => 38 | 26 => 39 | 27 => 40 | 46 => 45 | 47 => 46 | 48 => 47 | 49 => 48 | 50 => 49 | 57 => 51 | n => n, fun | 22 => 22 | 24 => 29 | 25 => 64 | 3 => 3 | 39 => 67 | 0 => 0 | 53 => 81 | 55 => 83 | 4 => 4 | 46 => 74 | 45 => 73 | 50 => 78 | 5 => 5 | 9 => 9 | 66 => 87 | 70 => 91 | 76 => 93 | 77 => 94 | n => n, fun | n => n⟩
theorem YtdjbfhllialinaaDoor.sortRt : Go.Proofs.SlLaysF0.n6 Tryd.prog YtdjbfhllialinaaDoor.sortRt_ren := {
  mixed := by kernel_rfl
  f6 := ⟨Tryd.f25.name, by decide, Tryd.func25.trans (congrArg some (by kernel_rfl))⟩
  f14 := ⟨Tryd.f29.name, by decide, Tryd.func29.trans (congrArg some (by kernel_rfl))⟩
  f15 := Tryd.func30.trans (congrArg some (by kernel_rfl))
  f20 := ⟨Tryd.f33.name, by decide, Tryd.func33.trans (congrArg some (by kernel_rfl))⟩
  f21 := ⟨Tryd.f34.name, by decide, Tryd.func34.trans (congrArg some (by kernel_rfl))⟩
  f22 := ⟨Tryd.f35.name, by decide, Tryd.func35.trans (congrArg some (by kernel_rfl))⟩
  f23 := ⟨Tryd.f36.name, by decide, Tryd.func36.trans (congrArg some (by kernel_rfl))⟩
  f24 := ⟨Tryd.f37.name, by decide, Tryd.func37.trans (congrArg some (by kernel_rfl))⟩
  f25 := ⟨Tryd.f38.name, by decide, Tryd.func38.trans (congrArg some (by kernel_rfl))⟩
  f26 := ⟨Tryd.f39.name, by decide, Tryd.func39.trans (congrArg some (by kernel_rfl))⟩
  f27 := ⟨Tryd.f40.name, by decide, Tryd.func40.trans (congrArg some (by kernel_rfl))⟩
  f28 := Tryd.func41.trans (congrArg some (by kernel_rfl))
  f29 := Tryd.func42.trans (congrArg some (by kernel_rfl))
  f46 := ⟨Tryd.f45.name, by decide, Tryd.func45.trans (congrArg some (by kernel_rfl))⟩
  f47 := Tryd.func46.trans (congrArg some (by kernel_rfl))
  f48 := Tryd.func47.trans (congrArg some (by kernel_rfl))
  f49 := ⟨Tryd.f48.name, by decide, Tryd.func48.trans (congrArg some (by kernel_rfl))⟩
  f50 := ⟨Tryd.f49.name, by decide, Tryd.func49.trans (congrArg some (by kernel_rfl))⟩
  f57 := ⟨Tryd.f51.name, by decide, Tryd.func51.trans (congrArg some (by kernel_rfl))⟩
  t0 := Tryd.underlying0
  a0 := Tryd.isAgg0
  z0 := Tryd.sizeOf0
  v0 := Tryd.zeroValue0
  t3 := Tryd.underlying3
  a3 := Tryd.isAgg3
  z3 := Tryd.sizeOf3
  v3 := Tryd.zeroValue3
  t4 := Tryd.underlying4
  a4 := Tryd.isAgg4
  z4 := Tryd.sizeOf4
  v4 := Tryd.zeroValue4
  t5 := Tryd.underlying5
  a5 := Tryd.isAgg5
  z5 := Tryd.sizeOf5
  v5 := Tryd.zeroValue5
  t9 := Tryd.underlying9
  a9 := Tryd.isAgg9
  z9 := Tryd.sizeOf9
  v9 := Tryd.zeroValue9
  t22 := Tryd.underlying22
  a22 := Tryd.isAgg22
  z22 := Tryd.sizeOf22
  v22 := Tryd.zeroValue22
  t25 := Tryd.underlying64
  a25 := Tryd.isAgg64
  z25 := Tryd.sizeOf64
  v25 := Tryd.zeroValue64
  t39 := Tryd.underlying67
  a39 := Tryd.isAgg67
  z39 := Tryd.sizeOf67
  v39 := Tryd.zeroValue67
  t45 := Tryd.underlying73
  a45 := Tryd.isAgg73
  z45 := Tryd.sizeOf73
  v45 := Tryd.zeroValue73
  t46 := Tryd.underlying74
  a46 := Tryd.isAgg74
  z46 := Tryd.sizeOf74
  v46 := Tryd.zeroValue74
  t50 := Tryd.underlying78
  a50 := Tryd.isAgg78
  z50 := Tryd.sizeOf78
  v50 := Tryd.zeroValue78
  t53 := Tryd.underlying81
  a53 := Tryd.isAgg81
  z53 := Tryd.sizeOf81
  v53 := Tryd.zeroValue81
  t55 := Tryd.underlying83
  a55 := Tryd.isAgg83
  z55 := Tryd.sizeOf83
  v55 := Tryd.zeroValue83
  t66 := Tryd.underlying87
  a66 := Tryd.isAgg87
  z66 := Tryd.sizeOf87
  v66 := Tryd.zeroValue87
  t70 := Tryd.underlying91
  a70 := Tryd.isAgg91
  z70 := Tryd.sizeOf91
  v70 := Tryd.zeroValue91
  t76 := Tryd.underlying93
  a76 := Tryd.isAgg93
  z76 := Tryd.sizeOf93
  v76 := Tryd.zeroValue93
  t77 := Tryd.underlying94
  a77 := Tryd.isAgg94
  z77 := Tryd.sizeOf94
  v77 := Tryd.zeroValue94 }
end Go.Proofs
namespace Go.Proofs.YtdjbfhllialinaaDoor
open Go.RowKit Go.Maps

def cB (a b : RV) : Int := Lib.compareBytes (by16 a.p.x) (by16 b.p.x)
def lt3 (a b : RV) : Prop := a.p.V < b.p.V ∨ (a.p.V = b.p.V ∧ (cB a b < 0 ∨ (by16 a.p.x = by16 b.p.x ∧ a.p.n < b.p.n)))
def ge3 (a b : RV) : Prop := b.p.V < a.p.V ∨ (a.p.V = b.p.V ∧ (cB b a < 0 ∨ (by16 a.p.x = by16 b.p.x ∧ b.p.n ≤ a.p.n)))
theorem cB_asym {a b : RV} (h : cB a b < 0) : ¬ cB b a < 0 := cmp_asym _ _ h
theorem cB_tri (a b : RV) : cB a b < 0 ∨ cB b a < 0 ∨ by16 a.p.x = by16 b.p.x := by
  by_cases h1 : cB a b < 0
  · exact .inl h1
  · by_cases h2 : cB b a < 0
    · exact .inr (.inl h2)
    · exact .inr (.inr (cmp_eq0 _ _ (by rw [by16_len, by16_len]) h1 h2))
theorem cB_eq {a b : RV} (h : by16 a.p.x = by16 b.p.x) : ¬ cB a b < 0 := by unfold cB; rw [h, cmp_self]; omega
theorem less_iff (a b : RV) : lessB a.p.V b.p.V a.p.x b.p.x = true ↔ (a.p.V < b.p.V ∨ (a.p.V = b.p.V ∧ cB a b < 0)) := by
  unfold lessB cB
  by_cases h : a.p.V = b.p.V
  · rw [if_pos h]; simp; omega
  · rw [if_neg h]; simp; omega
theorem ord_lt (a b : RV) : ordV a b < 0 ↔ lt3 a b := by
  unfold ordV lt3
  by_cases h1 : lessB a.p.V b.p.V a.p.x b.p.x = true
  · rw [if_pos h1]
    have := (less_iff a b).1 h1
    constructor
    · intro _
      rcases this with e | ⟨e1, e2⟩
      · exact .inl e
      · exact .inr ⟨e1, .inl e2⟩
    · intro _; omega
  · rw [if_neg h1]
    have n1 : ¬ (a.p.V < b.p.V ∨ (a.p.V = b.p.V ∧ cB a b < 0)) := fun e => h1 ((less_iff a b).2 e)
    by_cases h2 : lessB b.p.V a.p.V b.p.x a.p.x = true
    · rw [if_pos h2]
      have := (less_iff b a).1 h2
      constructor
      · intro h; omega
      · rintro (e | ⟨e1, e2 | ⟨e2, e3⟩⟩)
        · exact absurd (.inl e) n1
        · exact absurd (.inr ⟨e1, e2⟩) n1
        · rcases this with e | ⟨_, e⟩
          · omega
          · exact absurd e (cB_eq e2.symm)
    · rw [if_neg h2]
      have n2 : ¬ (b.p.V < a.p.V ∨ (b.p.V = a.p.V ∧ cB b a < 0)) := fun e => h2 ((less_iff b a).2 e)
      have hV : a.p.V = b.p.V := by omega
      have hB : by16 a.p.x = by16 b.p.x := by
        rcases cB_tri a b with e | e | e
        · exact absurd (.inr ⟨hV, e⟩) n1
        · exact absurd (.inr ⟨hV.symm, e⟩) n2
        · exact e
      constructor
      · intro h
        refine .inr ⟨hV, .inr ⟨hB, ?_⟩⟩
        by_cases h3 : a.p.n < b.p.n
        · exact h3
        · rw [if_neg h3] at h
          split at h <;> omega
      · rintro (e | ⟨e1, e2 | ⟨e2, e3⟩⟩)
        · omega
        · exact absurd (.inr ⟨e1, e2⟩) n1
        · rw [if_pos e3]; omega
theorem not_lt3 (a b : RV) : ¬ lt3 a b ↔ ge3 a b := by
  unfold lt3 ge3
  constructor
  · intro h
    rcases Int.lt_trichotomy a.p.V b.p.V with e | e | e
    · exact absurd (.inl e) h
    · refine .inr ⟨e, ?_⟩
      rcases cB_tri a b with c | c | c
      · exact absurd (.inr ⟨e, .inl c⟩) h
      · exact .inl c
      · refine .inr ⟨c, ?_⟩
        by_cases hn : a.p.n < b.p.n
        · exact absurd (.inr ⟨e, .inr ⟨c, hn⟩⟩) h
        · omega
    · exact .inl e
  · rintro (e | ⟨e, c | ⟨c, hn⟩⟩) (k | ⟨k, d | ⟨d, hm⟩⟩)
    · omega
    · omega
    · omega
    · omega
    · exact cB_asym d c
    · exact cB_eq d.symm c
    · omega
    · exact cB_eq c d
    · omega
theorem ge3_trans {a b c : RV} (h : ge3 a b) (k : ge3 b c) : ge3 a c := by
  unfold ge3 at *
  rcases h with h | ⟨h, h1 | ⟨h1, h2⟩⟩
  · rcases k with k | ⟨k, _⟩
    · left; omega
    · left; omega
  · rcases k with k | ⟨k, k1 | ⟨k1, k2⟩⟩
    · left; omega
    · exact .inr ⟨h.trans k, .inl (cmp_trans _ _ _ k1 h1)⟩
    · refine .inr ⟨h.trans k, .inl ?_⟩
      unfold cB at h1 ⊢
      rw [← k1]; exact h1
  · rcases k with k | ⟨k, k1 | ⟨k1, k2⟩⟩
    · left; omega
    · refine .inr ⟨h.trans k, .inl ?_⟩
      unfold cB at k1 ⊢
      rw [h1]; exact k1
    · exact .inr ⟨h.trans k, .inr ⟨h1.trans k1, by omega⟩⟩
theorem lt3_trans {a b c : RV} (h : lt3 a b) (k : lt3 b c) : lt3 a c := by
  unfold lt3 at *
  rcases h with h | ⟨h, h1 | ⟨h1, h2⟩⟩
  · rcases k with k | ⟨k, _⟩
    · left; omega
    · left; omega
  · rcases k with k | ⟨k, k1 | ⟨k1, k2⟩⟩
    · left; omega
    · exact .inr ⟨h.trans k, .inl (cmp_trans _ _ _ h1 k1)⟩
    · refine .inr ⟨h.trans k, .inl ?_⟩
      unfold cB at h1 ⊢
      rw [← k1]; exact h1
  · rcases k with k | ⟨k, k1 | ⟨k1, k2⟩⟩
    · left; omega
    · refine .inr ⟨h.trans k, .inl ?_⟩
      unfold cB at k1 ⊢
      rw [h1]; exact k1
    · exact .inr ⟨h.trans k, .inr ⟨h1.trans k1, by omega⟩⟩
theorem ord_swo : Go.Sort.SWO (Go.Proofs.ltOf ordV) where
  irrefl x := by
    unfold Go.Proofs.ltOf
    rw [decide_eq_false_iff_not, ord_lt, not_lt3]
    exact .inr ⟨rfl, .inr ⟨rfl, Int.le_refl _⟩⟩
  trans x y z h1 h2 := by
    unfold Go.Proofs.ltOf at *
    rw [decide_eq_true_iff, ord_lt] at *
    exact lt3_trans h1 h2
  ntrans x y z h1 h2 := by
    unfold Go.Proofs.ltOf at *
    rw [decide_eq_false_iff_not, ord_lt, not_lt3] at *
    exact ge3_trans h1 h2
instance : Inhabited RV := ⟨rz⟩
theorem order_lays (blk off size : Nat) (w : World) : Go.Proofs.CmpLays Tryd.prog 26 #[] rcL 36 ordV blk off size w := fun _ _ _ _ a b => (order_gr a b _).mono fun _ _ ⟨he, hg⟩ => ⟨he, hg.grow⟩
end Go.Proofs.YtdjbfhllialinaaDoor
