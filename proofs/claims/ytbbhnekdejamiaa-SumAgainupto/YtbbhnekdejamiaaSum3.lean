/-
  sum.Check, Good; calls whose parts are written out at the call; what the statements ask ahead: awake.
-/
import Derived.Test.YtbbhnekdejamiaaSum2
namespace Go.Proofs.Ytbbhnekdejamiaa
open Go.RowKit

theorem check_any (a : Option Addr) (n cap : Nat) (ps : List Part) (w : World) (hn : ps.length = n) (hps : Parts w a ps) (htot : (allB ps).length ≤ 1099511627776) (hn2 : n ≤ 9223372036854775807) :
    Calls Try.prog 9 #[.slice a n cap] w fun e w' => e = .returned (.int .i64 ((65535 - S.fold (S.wv false (allB ps)) : Nat) : Int)) ∧ Below w.heap.size w w' := by
  go_enter Try.func9, Try.ntmps9
  go_wp2_with fail
  refine (sum_any a n cap ps w hn hps htot hn2).mono ?_
  rintro e w1 ⟨rfl, hb1⟩
  have h1 := S.fold_le (S.wv false (allB ps))
  obtain ⟨f, hf⟩ : ∃ f, f = S.fold (S.wv false (allB ps)) := ⟨_, rfl⟩
  rw [← hf] at h1 ⊢
  have HF : Hid (f = S.fold (S.wv false (allB ps))) := hf
  clear hf
  go_wp2
  go_ret
  exact ⟨ret1 (by rw [← HF.out]; omega), hb1⟩

theorem good_any (a : Option Addr) (n cap : Nat) (ps : List Part) (w : World) (hn : ps.length = n) (hps : Parts w a ps) (htot : (allB ps).length ≤ 1099511627776) (hn2 : n ≤ 9223372036854775807) :
    Calls Try.prog 11 #[.slice a n cap] w fun e w' => e = .returned (.bool (decide (S.fold (S.wv false (allB ps)) = 65535))) ∧ Below w.heap.size w w' := by
  go_enter Try.func11, Try.ntmps11
  go_wp2_with fail
  refine (sum_any a n cap ps w hn hps htot hn2).mono ?_
  rintro e w1 ⟨rfl, hb1⟩
  have h1 := S.fold_le (S.wv false (allB ps))
  obtain ⟨f, hf⟩ : ∃ f, f = S.fold (S.wv false (allB ps)) := ⟨_, rfl⟩
  rw [← hf] at h1 ⊢
  have HF : Hid (f = S.fold (S.wv false (allB ps))) := hf
  clear hf
  go_wp2
  go_ret
  refine ⟨congrArg (fun b => Ending.returned (.bool b)) ?_, hb1⟩
  rw [← HF.out]
  by_cases h : f = 65535
  · subst h; rfl
  · have h2 : ¬ (f : Int) = 65535 := by omega
    rw [decide_eq_false h]
    simpa using h2

/-- the parts lie in a list of the call's own make -/
theorem parts_new (w : World) (ps : List Part) (t : TypeId) (h : ∀ p ∈ ps, p.ok w) : Parts (w.alloc (.cells (ps.map Part.val).toArray t)) (some ⟨w.heap.size, 0, none⟩) ps := by
  refine ⟨.inr ⟨_, _, rfl, fun i hi => ?_⟩, fun p hp => (h p hp).old ((Below.refl _ _).alloc (Nat.le_refl _) _)⟩
  rw [Nat.zero_add, World.cell?_alloc_at _ _ _ _ rfl]
  simp [hi]
theorem bthen {a b c : World} (h : Below a.heap.size a b) (k : Below b.heap.size b c) : Below a.heap.size a c := h.trans (k.mono h.size)
theorem below_new {w w' : World} {o : Obj} (h : Below (w.alloc o).heap.size (w.alloc o) w') : Below w.heap.size w w' := ((Below.refl _ _).alloc (Nat.le_refl _) _).trans (h.mono (by simp))

section
variable (w : World) (B : Nat) (a1 a2 : Option Addr) (n1 n2 c1 c2 : Nat) (l1 l2 : List Nat)
theorem sum_one (hB : B = w.heap.size) (hl : l1.length = n1) (h : Part.ok w ⟨a1, c1, l1⟩) (hs : n1 ≤ 1099511627776) :
    Calls Try.prog 7 #[.slice (some ⟨B, 0, none⟩) 1 1] (w.alloc (.cells #[.slice a1 n1 c1] 26)) fun e w' => e = .returned (.int .i64 ((S.fold (S.wv false l1) : Nat) : Int)) ∧ Below w.heap.size w w' := by
  subst hB hl
  have := sum_any (some ⟨w.heap.size, 0, none⟩) 1 1 [⟨a1, c1, l1⟩] _ rfl (parts_new w [⟨a1, c1, l1⟩] 26 (by intro p hp; simp at hp; subst hp; exact h)) (by simp [allB]; omega) (by omega)
  simp only [allB, List.flatMap_cons, List.flatMap_nil, List.append_nil] at this
  exact this.mono (fun e w' h => ⟨h.1, below_new h.2⟩)
theorem check_one (hB : B = w.heap.size) (hl : l1.length = n1) (h : Part.ok w ⟨a1, c1, l1⟩) (hs : n1 ≤ 1099511627776) :
    Calls Try.prog 9 #[.slice (some ⟨B, 0, none⟩) 1 1] (w.alloc (.cells #[.slice a1 n1 c1] 26)) fun e w' => e = .returned (.int .i64 ((65535 - S.fold (S.wv false l1) : Nat) : Int)) ∧ Below w.heap.size w w' := by
  subst hB hl
  have := check_any (some ⟨w.heap.size, 0, none⟩) 1 1 [⟨a1, c1, l1⟩] _ rfl (parts_new w [⟨a1, c1, l1⟩] 26 (by intro p hp; simp at hp; subst hp; exact h)) (by simp [allB]; omega) (by omega)
  simp only [allB, List.flatMap_cons, List.flatMap_nil, List.append_nil] at this
  exact this.mono (fun e w' h => ⟨h.1, below_new h.2⟩)
theorem good_one (hB : B = w.heap.size) (hl : l1.length = n1) (h : Part.ok w ⟨a1, c1, l1⟩) (hs : n1 ≤ 1099511627776) :
    Calls Try.prog 11 #[.slice (some ⟨B, 0, none⟩) 1 1] (w.alloc (.cells #[.slice a1 n1 c1] 26)) fun e w' => e = .returned (.bool (decide (S.fold (S.wv false l1) = 65535))) ∧ Below w.heap.size w w' := by
  subst hB hl
  have := good_any (some ⟨w.heap.size, 0, none⟩) 1 1 [⟨a1, c1, l1⟩] _ rfl (parts_new w [⟨a1, c1, l1⟩] 26 (by intro p hp; simp at hp; subst hp; exact h)) (by simp [allB]; omega) (by omega)
  simp only [allB, List.flatMap_cons, List.flatMap_nil, List.append_nil] at this
  exact this.mono (fun e w' h => ⟨h.1, below_new h.2⟩)
theorem good_none (c : Nat) : Calls Try.prog 11 #[.slice none 0 c] w fun e w' => e = .returned (.bool false) ∧ Below w.heap.size w w' := by
  exact good_any none 0 c [] w rfl ⟨.inl rfl, by intro p hp; cases hp⟩ (by simp [allB]) (by omega)
theorem good_two (hB : B = w.heap.size) (hl1 : l1.length = n1) (hl2 : l2.length = n2) (h1 : Part.ok w ⟨a1, c1, l1⟩) (h2 : Part.ok w ⟨a2, c2, l2⟩) (hs : n1 + n2 ≤ 1099511627776) :
    Calls Try.prog 11 #[.slice (some ⟨B, 0, none⟩) 2 2] (w.alloc (.cells #[.slice a1 n1 c1, .slice a2 n2 c2] 26)) fun e w' => e = .returned (.bool (decide (S.fold (S.wv false (l1 ++ l2)) = 65535))) ∧ Below w.heap.size w w' := by
  subst hB hl1 hl2
  have := good_any (some ⟨w.heap.size, 0, none⟩) 2 2 [⟨a1, c1, l1⟩, ⟨a2, c2, l2⟩] _ rfl (parts_new w [⟨a1, c1, l1⟩, ⟨a2, c2, l2⟩] 26 (by intro p hp; simp at hp; rcases hp with rfl | rfl; exact h1; exact h2)) (by simp [allB]; omega) (by omega)
  simp only [allB, List.flatMap_cons, List.flatMap_nil, List.append_nil] at this
  exact this.mono (fun e w' h => ⟨h.1, below_new h.2⟩)
end

theorem seg_new3 (w : World) (k : IntKind) (t : TypeId) (zs : List Int) : Seg k (w.alloc (.cells (zs.map (Value.int k)).toArray t)) (some ⟨w.heap.size, 0, none⟩) zs := by
  refine .inr ⟨_, _, rfl, ?_⟩
  intro i hi
  rw [Nat.zero_add, World.cell?_alloc_at _ _ _ _ rfl]
  simp [List.getD, hi]

def exB : List Nat := [0, 1, 242, 3, 244, 245, 246, 247]
theorem ex_ok {w w' : World} (h : Below (w.alloc (.cells #[.int .u8 0, .int .u8 1, .int .u8 242, .int .u8 3, .int .u8 244, .int .u8 245, .int .u8 246, .int .u8 247] 5)).heap.size (w.alloc (.cells #[.int .u8 0, .int .u8 1, .int .u8 242, .int .u8 3, .int .u8 244, .int .u8 245, .int .u8 246, .int .u8 247] 5)) w') : Part.ok w' ⟨some ⟨w.heap.size, 0, none⟩, 8, exB⟩ :=
  ⟨(seg_new3 w .u8 5 (toI exB)).old h, by show ∀ x ∈ exB, x < 256; decide, by show 8 ≤ 8; decide, by show 8 ≤ 9223372036854775807; decide⟩
theorem two_ok (w : World) : Part.ok (w.alloc (.cells #[.int .u8 34, .int .u8 13] 5)) ⟨some ⟨w.heap.size, 0, none⟩, 2, [34, 13]⟩ :=
  ⟨seg_new3 w .u8 5 (toI [34, 13]), by show ∀ x ∈ [34, 13], x < 256; decide, by show 2 ≤ 2; decide, by show 2 ≤ 9223372036854775807; decide⟩

set_option maxHeartbeats 400000 in
theorem awake_any (w : World) : Calls Try.prog 4 #[] w fun e w' => e = .returned (.bool true) ∧ Below w.heap.size w w' := by
  have f1 : S.fold (S.wv false exB) = 56818 := by decide
  have f2 : decide (S.fold (S.wv false (exB ++ [34, 13])) = 65535) = true := by decide
  go_enter Try.func4, Try.ntmps4
  go_wp2_with fail
  refine (sum_one _ _ (some ⟨w.heap.size, 0, none⟩) 8 8 exB (by simp) rfl (ex_ok (Below.refl _ _)) (by decide)).mono ?_
  rintro e w1 ⟨rfl, hb1⟩
  rw [f1]
  go_wp2_with fail
  refine (check_one _ _ (some ⟨w.heap.size, 0, none⟩) 8 8 exB (by simp) rfl (ex_ok hb1) (by decide)).mono ?_
  rintro e w2 ⟨rfl, hb2⟩
  rw [f1]
  have hb12 := hb1.trans (hb2.mono hb1.size)
  go_wp2_with fail
  refine (good_two _ _ (some ⟨w.heap.size, 0, none⟩) (some ⟨w2.heap.size, 0, none⟩) 8 2 8 2 exB [34, 13] (by simp) rfl rfl (ex_ok (hb12.alloc hb12.size _)) (two_ok _) (by decide)).mono ?_
  rintro e w3 ⟨rfl, hb3⟩
  rw [f2]
  go_wp2_with fail
  refine (good_none _ _).mono ?_
  rintro e w4 ⟨rfl, hb4⟩
  go_wp2
  go_ret
  exact ⟨rfl, below_new (bthen (bthen hb12 (below_new hb3)) hb4)⟩

theorem below_grown {A B : World} (h : Below A.heap.size A B) (r : Option Nat) : A.grownBy B r := ⟨h.os, h.tape, h.output, h.size, fun k hk _ => h.block k hk⟩
theorem own_below {A B : World} {base : Nat} {e : TypeId} {v : Value} {m : Nat} {xs : List Value} (h : A.ownsRow base e 1 v m xs) (hB : Below A.heap.size A B) : B.ownsRow base e 1 v m xs :=
  h.kept (below_grown hB none) (by cases hv : v.ownBlock <;> simp)
theorem owns_seg {w : World} {base : Nat} {e : TypeId} {v : Value} {n : Nat} {k : IntKind} {zs : List Int} (h : w.ownsRow base e 1 v n (zs.map (Value.int k))) :
    ∃ a c, v = .slice a n c ∧ Seg k w a zs ∧ zs.length = n ∧ n ≤ c ∧ c ≤ maxLen := by
  have hl : zs.length = n := by have := h.1; simpa using this
  rcases h.2 with ⟨rfl, rfl⟩ | ⟨g, cap, cur, rfl, hg, hh, hnc, hcm, r⟩
  · exact ⟨none, 0, rfl, .inl (List.eq_nil_of_length_eq_zero hl), hl, Nat.le_refl _, Nat.zero_le _⟩
  · refine ⟨_, _, rfl, .inr ⟨g, 0, rfl, ?_⟩, hl, hnc, hcm⟩
    intro i hi
    have := h.cellAt i (by omega)
    rw [Nat.zero_add, this]
    simp [List.getD, hi]
theorem owns_seg_at {w : World} {base : Nat} {e : TypeId} {g : Option Addr} {n c : Nat} {k : IntKind} {zs : List Int} (h : w.ownsRow base e 1 (.slice g n c) n (zs.map (Value.int k))) : Seg k w g zs ∧ n ≤ c ∧ c ≤ 9223372036854775807 := by
  obtain ⟨a, c', e1, hs, _, h1, h2⟩ := owns_seg h
  simp only [Value.slice.injEq, true_and] at e1
  rw [e1.1, e1.2]
  exact ⟨hs, h1, by unfold maxLen at h2; exact h2⟩
/-- bytes of the call's own -/
abbrev OwnB (w : World) (B : Nat) (v : Value) (n : Nat) (l : List Nat) : Prop := w.ownsRow B 5 1 v n ((toI l).map (Value.int .u8))
theorem OwnB.len {w : World} {B : Nat} {v : Value} {n : Nat} {l : List Nat} (h : OwnB w B v n l) : l.length = n := by have := h.1; simpa [toI] using this
theorem OwnB.below {A C : World} {B : Nat} {v : Value} {n : Nat} {l : List Nat} (h : OwnB A B v n l) (hB : Below A.heap.size A C) : OwnB C B v n l := own_below h hB
theorem OwnB.part {w : World} {B : Nat} {g : Option Addr} {n c : Nat} {l : List Nat} (h : OwnB w B (.slice g n c) n l) (h256 : ∀ x ∈ l, x < 256) : Part.ok w ⟨g, c, l⟩ := by
  obtain ⟨h1, h2, h3⟩ := owns_seg_at h
  exact ⟨h1, h256, by show l.length ≤ c; rw [h.len]; exact h2, h3⟩
end Go.Proofs.Ytbbhnekdejamiaa
