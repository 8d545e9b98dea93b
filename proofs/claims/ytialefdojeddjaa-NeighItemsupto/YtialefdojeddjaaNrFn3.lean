/-
  Layer 15's reference: without, with, put.
-/
import Derived.Test.YtialefdojeddjaaNrFn2
namespace Go.Proofs.Ytialefdojeddjaa
open Go.RowKit Go.Maps

theorem EL.cap {w : World} {base : Nat} {v : Value} {L : List RE} (h : EL w base v L) : ∃ va vc, v = .slice va L.length vc ∧ ER w va L ∧ L.length ≤ vc ∧ vc ≤ 9223372036854775807 := by
  obtain ⟨va, vc, rfl, hER⟩ := h.er
  rcases h.2 with ⟨e, h0⟩ | ⟨g, cap, cur, e, hb, hg, hnc, hcm, hcs, ht⟩
  · simp only [Value.slice.injEq] at e
    obtain ⟨rfl, h1, rfl⟩ := e
    exact ⟨none, 0, by rw [h1], hER, by omega, by omega⟩
  · simp only [Value.slice.injEq] at e
    obtain ⟨rfl, _, rfl⟩ := e
    exact ⟨_, _, rfl, hER, hnc, by unfold maxLen at hcm; omega⟩
theorem grown_below {a b : World} {o : Option Nat} {B : Nat} (h : a.grownBy b o) (ho : ∀ g, o = some g → B ≤ g) (hB : B ≤ a.heap.size) : Below B a b :=
  ⟨h.os, h.tape, h.output, h.size, fun k hk => h.block k (by omega) (fun e => by have := ho k e.symm; omega)⟩
set_option maxHeartbeats 3200000 in
set_option maxRecDepth 100000 in
theorem rwithout_any (la : Option Addr) (n lc : Nat) (R : List RE) (i : Nat) (w : World) (hR : ER w la R) (hn : R.length = n) (hl : n ≤ 100000) (hc : n ≤ lc) (hc2 : lc ≤ 9223372036854775807) (hi : i < n) : Calls Try.prog 103 #[.slice la n lc, .int .i64 (i : Int)] w fun r w' => ∃ v, r = .returned v ∧ EL w' w.heap.size v (R.take i ++ R.drop (i + 1)) ∧ Below w.heap.size w w' := by
  obtain ⟨e, he⟩ : ∃ e, R[i]? = some e := ⟨_, List.getElem?_eq_getElem (by omega)⟩
  obtain ⟨g, off, rfl, _, _⟩ := hR.at i e he
  have HN : Hid (R.length = n ∧ n ≤ 100000 ∧ n ≤ lc ∧ i < n) := ⟨hn, hl, hc, hi⟩
  have HER : Hid (ER w (some ⟨g, off, none⟩) R) := hR
  have k0 : (0 : Int) ≤ (i : Int) := by omega
  have k1 : (i : Int) ≤ (lc : Int) := by omega
  have k2 : ((i : Int)).toNat = i := by omega
  have k3 : i ≤ lc := by omega
  have k4 : i + 1 ≤ n := by omega
  have wi : IntKind.i64.wrap ((i : Int) + 1) = ((i + 1 : Nat) : Int) := by rw [IntKind.wrap_i64]; omega
  clear hR hn hl he
  go_enter Try.func103, Try.ntmps103
  go_wp2_with (first | (refine wpList_app_er rfl (.tmp 6) (.tmp 9) rfl w.heap.size (.slice none 0 0) [] rfl (EL.nil _ _) (some ⟨g, off, none⟩) i lc (R.take i) rfl (by have := HN.out; rw [List.length_take]; omega) (HER.out.take i) (by simp) (by have := HN.out; omega) (Nat.le_refl _) ?_))
  intro v1 w1 h1 g1 _
  have b1 : Below w.heap.size w w1 := grown_below g1 (fun g hg => by cases hg) (Nat.le_refl _)
  have H1 : Hid (EL w1 w.heap.size v1 (R.take i) ∧ ER w1 (some ⟨g, off, none⟩) R ∧ Below w.heap.size w w1) := ⟨h1, HER.out.below b1, b1⟩
  clear h1 g1 b1
  by_cases hlc : lc = i + 1
  · have HD : Hid (R.drop (i + 1) = []) := List.drop_of_length_le (by have := HN.out; omega)
    go_wp2_with (first | (refine wpList_app_er rfl (.tmp 11) (.tmp 15) rfl w.heap.size v1 (R.take i) rfl H1.out.1 (some ⟨g, off, none⟩) (n - (i + 1)) 0 (R.drop (i + 1)) rfl (by have := HN.out; rw [List.length_drop]; omega) (.inl HD.out) (by have := HN.out; rw [List.length_take]; omega) (by have := HN.out; omega) H1.out.2.2.size ?_))
    intro v2 w2 h2 g2 _
    have HE : Hid (EL w2 w.heap.size v2 (R.take i ++ R.drop (i + 1)) ∧ Below w.heap.size w w2) := ⟨h2, H1.out.2.2.trans (grown_below g2 (fun g hg => (H1.out.1.cells g hg).1) H1.out.2.2.size)⟩
    clear h2 g2 H1
    go_wp2_with fail
    go_ret
    exact ⟨v2, rfl, HE.out.1, HE.out.2⟩
  · have hlc2 : ¬ lc - (i + 1) = 0 := by have := HN.out; omega
    go_wp2_with (first | (refine wpList_app_er rfl (.tmp 11) (.tmp 15) rfl w.heap.size v1 (R.take i) rfl H1.out.1 (some ⟨g, off + (i + 1) * 29, none⟩) (n - (i + 1)) (lc - (i + 1)) (R.drop (i + 1)) rfl (by have := HN.out; rw [List.length_drop]; omega) (H1.out.2.1.drop (i + 1)) (by have := HN.out; rw [List.length_take]; omega) (by have := HN.out; omega) H1.out.2.2.size ?_))
    intro v2 w2 h2 g2 _
    have HE : Hid (EL w2 w.heap.size v2 (R.take i ++ R.drop (i + 1)) ∧ Below w.heap.size w w2) := ⟨h2, H1.out.2.2.trans (grown_below g2 (fun g hg => (H1.out.1.cells g hg).1) H1.out.2.2.size)⟩
    clear h2 g2 H1
    go_wp2_with fail
    go_ret
    exact ⟨v2, rfl, HE.out.1, HE.out.2⟩
end Go.Proofs.Ytialefdojeddjaa
