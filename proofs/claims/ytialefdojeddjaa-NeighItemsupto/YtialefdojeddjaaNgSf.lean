/-
  Layer 15: the entries' order; slices.SortFunc, laid at the keys' own instance.
-/
import Derived.Test.YtialefdojeddjaaNgLs
import Derived.Shelf.SlSortCmp.WholeK
import Derived.Ground.SlsfProg
namespace Go.Proofs
open Go.Shelf Go.RowKit Go.Lib Go.Sort
def Ytialefdojeddjaa.sortRt_ren : Go.Shelf.Ren := ⟨fun | 6 => 54 | 15 => 69 | 14 => 68 | 28 => 88 | 29 => 89 | 20 => 80 | 21 => 81 | 22 => 82 | 23 => 83 | 24 => 84 | 25 => 85 | 26 => 86 | 27 => 87 | 46 => 98 | 47 => 99 | 48 => 100 | 49 => 101 | 50 => 102 | 57 => 105 | n => n, fun | 22 => 111 | 24 => 98 | 25 => 116 | 3 => 3 | 39 => 131 | 0 => 0 | 53 => 154 | 55 => 156 | 4 => 4 | 46 => 147 | 45 => 146 | 50 => 151 | 5 => 5 | 9 => 9 | 66 => 166 | 70 => 170 | 76 => 174 | 77 => 175 | n => n, fun | n => n⟩
theorem Ytialefdojeddjaa.sortRt : Go.Proofs.SlLaysF0.n6 Try.prog Ytialefdojeddjaa.sortRt_ren := {
  mixed := by kernel_rfl
  f6 := ⟨Try.f54.name, by decide, Try.func54.trans (congrArg some (by kernel_rfl))⟩
  f14 := ⟨Try.f68.name, by decide, Try.func68.trans (congrArg some (by kernel_rfl))⟩
  f15 := Try.func69.trans (congrArg some (by kernel_rfl))
  f20 := ⟨Try.f80.name, by decide, Try.func80.trans (congrArg some (by kernel_rfl))⟩
  f21 := ⟨Try.f81.name, by decide, Try.func81.trans (congrArg some (by kernel_rfl))⟩
  f22 := ⟨Try.f82.name, by decide, Try.func82.trans (congrArg some (by kernel_rfl))⟩
  f23 := ⟨Try.f83.name, by decide, Try.func83.trans (congrArg some (by kernel_rfl))⟩
  f24 := ⟨Try.f84.name, by decide, Try.func84.trans (congrArg some (by kernel_rfl))⟩
  f25 := ⟨Try.f85.name, by decide, Try.func85.trans (congrArg some (by kernel_rfl))⟩
  f26 := ⟨Try.f86.name, by decide, Try.func86.trans (congrArg some (by kernel_rfl))⟩
  f27 := ⟨Try.f87.name, by decide, Try.func87.trans (congrArg some (by kernel_rfl))⟩
  f28 := Try.func88.trans (congrArg some (by kernel_rfl))
  f29 := Try.func89.trans (congrArg some (by kernel_rfl))
  f46 := ⟨Try.f98.name, by decide, Try.func98.trans (congrArg some (by kernel_rfl))⟩
  f47 := Try.func99.trans (congrArg some (by kernel_rfl))
  f48 := Try.func100.trans (congrArg some (by kernel_rfl))
  f49 := ⟨Try.f101.name, by decide, Try.func101.trans (congrArg some (by kernel_rfl))⟩
  f50 := ⟨Try.f102.name, by decide, Try.func102.trans (congrArg some (by kernel_rfl))⟩
  f57 := ⟨Try.f105.name, by decide, Try.func105.trans (congrArg some (by kernel_rfl))⟩
  t0 := Try.underlying0
  a0 := Try.isAgg0
  z0 := Try.sizeOf0
  v0 := Try.zeroValue0
  t3 := Try.underlying3
  a3 := Try.isAgg3
  z3 := Try.sizeOf3
  v3 := Try.zeroValue3
  t4 := Try.underlying4
  a4 := Try.isAgg4
  z4 := Try.sizeOf4
  v4 := Try.zeroValue4
  t5 := Try.underlying5
  a5 := Try.isAgg5
  z5 := Try.sizeOf5
  v5 := Try.zeroValue5
  t9 := Try.underlying9
  a9 := Try.isAgg9
  z9 := Try.sizeOf9
  v9 := Try.zeroValue9
  t22 := Try.underlying111
  a22 := Try.isAgg111
  z22 := Try.sizeOf111
  v22 := Try.zeroValue111
  t25 := Try.underlying116
  a25 := Try.isAgg116
  z25 := Try.sizeOf116
  v25 := Try.zeroValue116
  t39 := Try.underlying131
  a39 := Try.isAgg131
  z39 := Try.sizeOf131
  v39 := Try.zeroValue131
  t45 := Try.underlying146
  a45 := Try.isAgg146
  z45 := Try.sizeOf146
  v45 := Try.zeroValue146
  t46 := Try.underlying147
  a46 := Try.isAgg147
  z46 := Try.sizeOf147
  v46 := Try.zeroValue147
  t50 := Try.underlying151
  a50 := Try.isAgg151
  z50 := Try.sizeOf151
  v50 := Try.zeroValue151
  t53 := Try.underlying154
  a53 := Try.isAgg154
  z53 := Try.sizeOf154
  v53 := Try.zeroValue154
  t55 := Try.underlying156
  a55 := Try.isAgg156
  z55 := Try.sizeOf156
  v55 := Try.zeroValue156
  t66 := Try.underlying166
  a66 := Try.isAgg166
  z66 := Try.sizeOf166
  v66 := Try.zeroValue166
  t70 := Try.underlying170
  a70 := Try.isAgg170
  z70 := Try.sizeOf170
  v70 := Try.zeroValue170
  t76 := Try.underlying174
  a76 := Try.isAgg174
  z76 := Try.sizeOf174
  v76 := Try.zeroValue174
  t77 := Try.underlying175
  a77 := Try.isAgg175
  z77 := Try.sizeOf175
  v77 := Try.zeroValue175 }
end Go.Proofs
namespace Go.Proofs.Ytialefdojeddjaa
open Go.RowKit Go.Maps

def cB (a b : KV) : Int := Lib.compareBytes (by16 a.x) (by16 b.x)
def lt3 (a b : KV) : Prop := a.pt < b.pt ∨ (a.pt = b.pt ∧ (a.V < b.V ∨ (a.V = b.V ∧ cB a b < 0)))
def ge3 (a b : KV) : Prop := b.pt < a.pt ∨ (a.pt = b.pt ∧ (b.V < a.V ∨ (a.V = b.V ∧ (cB b a < 0 ∨ by16 a.x = by16 b.x))))
theorem cB_asym {a b : KV} (h : cB a b < 0) : ¬ cB b a < 0 := cmp_asym _ _ h
theorem cB_tri (a b : KV) : cB a b < 0 ∨ cB b a < 0 ∨ by16 a.x = by16 b.x := by
  by_cases h1 : cB a b < 0
  · exact .inl h1
  · by_cases h2 : cB b a < 0
    · exact .inr (.inl h2)
    · exact .inr (.inr (cmp_eq0 _ _ (by rw [by16_len, by16_len]) h1 h2))
theorem cB_eq {a b : KV} (h : by16 a.x = by16 b.x) : ¬ cB a b < 0 := by unfold cB; rw [h, cmp_self]; omega
theorem ci_cases (a b : Int) : (a < b ∧ ciV a b = -1) ∨ (a = b ∧ ciV a b = 0) ∨ (b < a ∧ ciV a b = 1) := by
  unfold ciV
  by_cases h1 : a < b
  · rw [if_pos h1]; exact .inl ⟨h1, rfl⟩
  · by_cases h2 : b < a
    · rw [if_neg h1, if_pos h2]; exact .inr (.inr ⟨h2, rfl⟩)
    · rw [if_neg h1, if_neg h2]; exact .inr (.inl ⟨by omega, rfl⟩)
theorem ord_lt (a b : KV) : ordV a b < 0 ↔ lt3 a b := by
  unfold ordV lt3 orV
  show _ ↔ a.pt < b.pt ∨ (a.pt = b.pt ∧ (a.V < b.V ∨ (a.V = b.V ∧ Lib.compareBytes (by16 a.x) (by16 b.x) < 0)))
  rcases ci_cases a.pt b.pt with ⟨h1, e1⟩ | ⟨h1, e1⟩ | ⟨h1, e1⟩
  · rw [e1, if_pos (by omega)]
    exact ⟨fun _ => .inl h1, fun _ => by omega⟩
  · rw [e1, if_neg (by omega)]
    rcases ci_cases a.V b.V with ⟨h2, e2⟩ | ⟨h2, e2⟩ | ⟨h2, e2⟩
    · rw [e2, if_pos (by omega)]
      exact ⟨fun _ => .inr ⟨h1, .inl h2⟩, fun _ => by omega⟩
    · rw [e2, if_neg (by omega)]
      constructor
      · intro h; exact .inr ⟨h1, .inr ⟨h2, h⟩⟩
      · rintro (h | ⟨_, h | ⟨_, h⟩⟩)
        · omega
        · omega
        · exact h
    · rw [e2, if_pos (by omega)]
      constructor
      · intro h; omega
      · rintro (h | ⟨_, h | ⟨h, _⟩⟩) <;> omega
  · rw [e1, if_pos (by omega)]
    constructor
    · intro h; omega
    · rintro (h | ⟨h, _⟩) <;> omega
theorem not_lt3 (a b : KV) : ¬ lt3 a b ↔ ge3 a b := by
  unfold lt3 ge3
  constructor
  · intro h
    rcases Int.lt_trichotomy a.pt b.pt with e | e | e
    · exact absurd (.inl e) h
    · refine .inr ⟨e, ?_⟩
      rcases Int.lt_trichotomy a.V b.V with f | f | f
      · exact absurd (.inr ⟨e, .inl f⟩) h
      · refine .inr ⟨f, ?_⟩
        rcases cB_tri a b with c | c | c
        · exact absurd (.inr ⟨e, .inr ⟨f, c⟩⟩) h
        · exact .inl c
        · exact .inr c
      · exact .inl f
    · exact .inl e
  · rintro (e | ⟨e, f | ⟨f, c | c⟩⟩) (k | ⟨k, l | ⟨l, d⟩⟩)
    all_goals first | omega | exact cB_asym d c | exact cB_eq c d
theorem lt3_trans {a b c : KV} (h : lt3 a b) (k : lt3 b c) : lt3 a c := by
  unfold lt3 at *
  rcases h with h | ⟨h, h1 | ⟨h1, h2⟩⟩ <;> rcases k with k | ⟨k, k1 | ⟨k1, k2⟩⟩
  all_goals first | (left; omega) | exact .inr ⟨h.trans k, .inl (by omega)⟩ | exact .inr ⟨h.trans k, .inr ⟨h1.trans k1, cmp_trans _ _ _ h2 k2⟩⟩
theorem ge3_trans {a b c : KV} (h : ge3 a b) (k : ge3 b c) : ge3 a c := by
  unfold ge3 at *
  rcases h with h | ⟨h, h1 | ⟨h1, h2⟩⟩ <;> rcases k with k | ⟨k, k1 | ⟨k1, k2⟩⟩
  all_goals first | (left; omega) | exact .inr ⟨h.trans k, .inl (by omega)⟩ | skip
  refine .inr ⟨h.trans k, .inr ⟨h1.trans k1, ?_⟩⟩
  rcases h2 with h2 | h2 <;> rcases k2 with k2 | k2
  · exact .inl (cmp_trans _ _ _ k2 h2)
  · left; unfold cB at h2 ⊢; rw [← k2]; exact h2
  · left; unfold cB at k2 ⊢; rw [h2]; exact k2
  · exact .inr (h2.trans k2)
theorem lt3_irr (a : KV) : ¬ lt3 a a := (not_lt3 a a).2 (.inr ⟨rfl, .inr ⟨rfl, .inr rfl⟩⟩)
theorem by16_same' (x y : Nat → Nat) (hx : ∀ i, i < 16 → x i < 256) (hy : ∀ i, i < 16 → y i < 256) (h : by16 x = by16 y) : same16 x y = true := by
  rw [same16_iff]
  intro i hi
  have h1 : (by16 x)[i]? = (by16 y)[i]? := by rw [h]
  simp [by16, Lib.bytesOf, toI, ipL, hi] at h1
  have h2 := congrArg UInt8.toNat h1
  have h3 := hx i hi
  have h4 := hy i hi
  simp at h2
  omega
/-- two keys that are not the same: one comes first -/
theorem tri (a b : KV) (ha : a.Wf) (hb : b.Wf) : lt3 a b ∨ lt3 b a ∨ eqP a b = true := by
  by_cases h1 : lt3 a b
  · exact .inl h1
  · have g1 := (not_lt3 a b).1 h1
    unfold ge3 at g1
    rcases g1 with g | ⟨g, f | ⟨f, c | c⟩⟩
    · exact .inr (.inl (.inl g))
    · exact .inr (.inl (.inr ⟨g.symm, .inl f⟩))
    · exact .inr (.inl (.inr ⟨g.symm, .inr ⟨f.symm, c⟩⟩))
    · refine .inr (.inr ?_)
      unfold eqP
      rw [by16_same' a.x b.x ha.x hb.x c, g, f]
      simp
theorem lt3_ne {a b : KV} (h : lt3 a b) : eqP a b = false := by
  rw [Bool.eq_false_iff]
  intro e
  have e' := (eqP_iff a b).1 e
  unfold eqP at e
  simp only [Bool.and_eq_true, beq_iff_eq] at e
  unfold lt3 at h
  rcases h with h | ⟨_, h | ⟨_, h⟩⟩
  · omega
  · omega
  · exact cB_eq (same_by16 _ _ e.2) h
theorem ord_swo : Go.Sort.SWO (Go.Proofs.ltOf ordV) where
  irrefl x := by
    unfold Go.Proofs.ltOf
    rw [decide_eq_false_iff_not, ord_lt, not_lt3]
    exact .inr ⟨rfl, .inr ⟨rfl, .inr rfl⟩⟩
  trans x y z h1 h2 := by
    unfold Go.Proofs.ltOf at *
    rw [decide_eq_true_iff, ord_lt] at *
    exact lt3_trans h1 h2
  ntrans x y z h1 h2 := by
    unfold Go.Proofs.ltOf at *
    rw [decide_eq_false_iff_not, ord_lt, not_lt3] at *
    exact ge3_trans h1 h2
instance : Inhabited KV := ⟨kz⟩
def kcL (k : KV) : List Value := (kC k).toList
theorem kcL_len (k : KV) : (kcL k).length = 18 := rfl
theorem order_lays (blk off size : Nat) (w : World) : Go.Proofs.CmpLays Try.prog 55 #[] kcL 18 ordV blk off size w := fun _ _ _ _ a b => (order_gr a b _).mono fun _ _ ⟨he, hg⟩ => ⟨he, hg.grow⟩
end Go.Proofs.Ytialefdojeddjaa
