/-
  The builder's calls: NewBuilder, fits, write, Bytes, Put, Len, Done.
-/
import Derived.Test.YtcgfdhmegagjdaaSplit
import Derived.Laws.CopyOwn
import Derived.Deep.RegionWith
namespace Go.Proofs.Ytcgfdhmegagjdaa
open Go.RowKit

/-- the block B holds a builder of at most mx bytes; its row (v) holds l -/
structure Bld (w : World) (B : Nat) (v : Value) (mx : Nat) (l : List Nat) : Prop where
  c0 : w.cell? ⟨B, 0, none⟩ = some v
  c1 : w.cell? ⟨B, 1, none⟩ = some (.int .i64 mx)
  fz : ∀ j, w.frozen? ⟨B, j, none⟩ = false
  lt : B < w.heap.size
  own : w.ownsRow 0 5 1 v l.length ((toI l).map (Value.int .u8))
  ne : v.ownBlock ≠ some B
/-- its blocks -/
def BS (B : Nat) (v : Value) (k : Nat) : Prop := k = B ∨ v.ownBlock = some k
theorem Bld.ch {S : Nat → Prop} {w w' : World} {B : Nat} {v : Value} {mx : Nat} {l : List Nat} (h : Bld w B v mx l) (k : Ch S w w') (hS : ∀ x, BS B v x → ¬ S x) : Bld w' B v mx l :=
  ⟨k.cell h.c0 (hS B (.inl rfl)), k.cell h.c1 (hS B (.inl rfl)), fun j => (k.frozen (p := ⟨B, j, none⟩) h.lt (hS B (.inl rfl))).trans (h.fz j), Nat.lt_of_lt_of_le h.lt k.size, k.owns h.own (fun g hg => hS g (.inr hg)), h.ne⟩
theorem Bld.below {w w' : World} {B : Nat} {v : Value} {mx : Nat} {l : List Nat} (h : Bld w B v mx l) (k : Below w.heap.size w w') : Bld w' B v mx l :=
  h.ch (Ch.ofBelow (S := fun _ => False) k) (fun _ _ => id)

set_option maxHeartbeats 400000 in
theorem newB_ok (mx : Nat) (w : World) (h : mx ≤ 65535) :
    Calls Try.prog 8 #[.int .i64 mx] w fun e w' => e = .returned (.tuple #[.pointer (some ⟨w.heap.size, 0, none⟩), .int .i64 0]) ∧ Bld w' w.heap.size (.slice none 0 0) mx [] ∧ w' = w.alloc (.cells #[.slice none 0 0, .int .i64 mx] 78) := by
  go_enter Try.func8, Try.ntmps8
  go_wp2
  go_ret2
  exact ⟨rfl, ⟨by simp [go_sem], by simp [go_sem], fun j => by simp [go_sem], by simp, World.ownsRow_nil _ _ _ _, by simp [Value.ownBlock]⟩, rfl⟩
set_option maxHeartbeats 400000 in
theorem newB_bad (mx : Int) (w : World) (h : mx < 0 ∨ 65535 < mx) :
    Calls Try.prog 8 #[.int .i64 mx] w fun e w' => e = .returned (.tuple #[.pointer none, .int .i64 1]) ∧ w = w' := by
  by_cases h0 : mx < 0
  · go_enter Try.func8, Try.ntmps8
    go_wp2
    go_ret2
    exact ⟨rfl, rfl⟩
  · have h1 : 65535 < mx := by omega
    go_enter Try.func8, Try.ntmps8
    go_wp2
    go_ret2
    exact ⟨rfl, rfl⟩

set_option maxHeartbeats 400000 in
theorem lenB_any (B : Nat) (v : Value) (mx : Nat) (l : List Nat) (w : World) (h : Bld w B v mx l) :
    Calls Try.prog 23 #[.pointer (some ⟨B, 0, none⟩)] w fun e w' => e = .returned (.int .i64 l.length) ∧ w = w' := by
  have h0 := h.c0
  obtain ⟨a, c, rfl⟩ := owns_shape h.own
  go_enter Try.func23, Try.ntmps23
  go_wp2
  go_ret
  exact ⟨rfl, rfl⟩
theorem form0 {w : World} {g B n : Nat} {e : TypeId} {xs : List Value} (h : w.ownsRow B e 1 (.slice (some ⟨g, 0, none⟩) n n) n xs) : w.heap[g]? = some (.cells xs.toArray e (0, 0)) ∧ B ≤ g ∧ n ≤ maxLen := by
  rcases h.2 with ⟨h1, _⟩ | ⟨g', cap, cur, h1, hb, hh, hn, hc, hs, ht⟩
  · simp at h1
  · simp only [Value.slice.injEq, Option.some.injEq, Addr.mk.injEq, and_true, true_and] at h1
    obtain ⟨rfl, rfl⟩ := h1
    rw [List.take_of_length_le (by simp; omega)] at ht
    exact ⟨by rw [hh, ← ht], hb, hc⟩
theorem to_own {w : World} {g B n : Nat} {e : TypeId} {xs : List Value} (h : w.heap[g]? = some (.cells xs.toArray e (0, 0))) (hb : B ≤ g) (hn : xs.length = n) (hm : n ≤ maxLen) : w.ownsRow B e 1 (.slice (some ⟨g, 0, none⟩) n n) n xs :=
  ⟨by simpa using hn, .inr ⟨g, n, xs.toArray, rfl, hb, h, Nat.le_refl _, hm, by simpa using hn, by simp; rw [← hn]; simp⟩⟩
theorem Try.sizeByte : (Try.prog.info? 5).map (·.size) = some 1 := by kernel_rfl
set_option maxHeartbeats 800000 in
theorem doneB_any (B : Nat) (v : Value) (mx : Nat) (l : List Nat) (w : World) (h : Bld w B v mx l) (hn : l.length ≤ 65535) :
    Calls Try.prog 13 #[.pointer (some ⟨B, 0, none⟩)] w fun e w' => ∃ g, e = .returned (.slice (some ⟨g, 0, none⟩) l.length l.length) ∧ w'.ownsRow w.heap.size 5 1 (.slice (some ⟨g, 0, none⟩) l.length l.length) l.length ((toI l).map (Value.int .u8)) ∧ Below w.heap.size w w' := by
  obtain ⟨i0, hi, hz0, hz1, hz2⟩ := info_parts Try.infoByte
  have h0 := h.c0
  obtain ⟨a, c, rfl⟩ := owns_shape h.own
  have hseg : Seg .u8 w a (toI l) := by
    obtain ⟨a', c', e1, hs, _⟩ := owns_seg h.own
    simp only [Value.slice.injEq, true_and] at e1
    rw [e1.1]; exact hs
  obtain ⟨n, hnn⟩ : ∃ n, n = l.length := ⟨_, rfl⟩
  obtain ⟨cs, hcs⟩ : ∃ cs, cs = (toI l).map (Value.int .u8) := ⟨_, rfl⟩
  have HCL : Hid (cs.length = n) := by show _ = _; rw [hcs]; simp [toI, hnn]
  have HC1 : Hid (∀ v ∈ cs, v.oneCell' = true) := by
    intro v hv; rw [hcs] at hv; obtain ⟨z, _, rfl⟩ := List.mem_map.1 hv; rfl
  have HSG : Hid (∀ w', Below w.heap.size w w' → 0 < cs.length → ∃ ad, a = some ad ∧ ∀ j v, cs[j]? = some v → w'.cell? (ad.add j) = some v) := by
    intro w' hb h0
    rcases hseg.old hb with hnil | ⟨b, off, rfl, hc⟩
    · rw [hcs, hnil] at h0; simp at h0
    · refine ⟨_, rfl, fun j v hj => ?_⟩
      rw [hcs] at hj
      have hj' : j < (toI l).length := by simpa using (List.getElem?_eq_some_iff.1 hj).1
      rw [Addr.add_lit, hc j hj']
      simp [List.getElem?_eq_getElem hj'] at hj
      rw [← hj]
      simp [List.getD, hj']
  rw [← hnn] at h0 hn ⊢
  rw [← hcs]
  have hlt := h.lt
  clear hcs hseg hnn h
  go_enter Try.func13, Try.ntmps13
  go_wp2_with (first | (at_make; refine wpList_make_full _ rfl _ _ 22 rfl w.heap.size 5 i0 (.int .u8 0) 1 Try.underlying22 hi hz0 hz1 .i64 .i64 _ _ n rfl rfl rfl rfl (by rw [hz2]; omega) (by unfold maxLen; omega) (Nat.le_refl _) ?_))
  intro w2 hown2 hgrow2
  have hb2 : Below w.heap.size w w2 := (Below.refl _ _).grown hgrow2 (Nat.le_refl _) (by intro k hk; cases hk)
  rw [toList_madeCells_one] at hown2
  obtain ⟨hg2, hgB, _⟩ := form0 hown2
  obtain ⟨g, hg⟩ : ∃ g, g = w.heap.size := ⟨_, rfl⟩
  rw [← hg] at hg2 ⊢
  have hgB' : w.heap.size ≤ g := by omega
  obtain ⟨zs, hzs⟩ : ∃ zs, zs = List.replicate n (Value.int IntKind.u8 0) := ⟨_, rfl⟩
  rw [← hzs] at hg2
  have HZL : Hid (zs.length = n) := by show _ = _; rw [hzs]; simp
  have h02 : w2.cell? ⟨B, 0, none⟩ = some (.slice a n c) := (hb2.cell hlt).trans h0
  clear hown2 hgrow2 hgB hg hzs
  go_wp2_with (first | (refine wpList_copy_splice rfl _ _ 22 22 rfl 5 Try.underlying22 Try.sizeByte _ _ _ _ _ _ rfl rfl g 0 zs 5 hg2 cs (by rw [HCL.out]; show n = min n n; omega) (fun h0 => ⟨rfl, HSG.out _ hb2 h0⟩) (by rw [HCL.out, HZL.out]; omega) HC1.out w.heap.size w hb2 hgB' ?_))
  intro w3 HG3 hb3
  have ho3 : w3.ownsRow w.heap.size 5 1 (.slice (some ⟨g, 0, none⟩) n n) n cs := by
    have h := HG3.out
    have e : splice zs 0 cs = cs := by
      rw [splice]
      simp only [List.take_zero, List.nil_append, Nat.zero_add]
      rw [List.drop_eq_nil_of_le (by rw [HCL.out, HZL.out]; exact Nat.le_refl _), List.append_nil]
    rw [e] at h
    exact to_own h hgB' HCL.out (by unfold maxLen; omega)
  clear HG3
  go_wp2
  go_ret
  exact ⟨g, rfl, ho3, hb3⟩
end Go.Proofs.Ytcgfdhmegagjdaa
