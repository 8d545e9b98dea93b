/-
  A sum turned along is the sum reckoned anew; are all bytes 0?
-/
import Derived.Test.YtfnmidaiabjpbaaSum6
namespace Go.Proofs.Ytfnmidaiabjpbaa
open Go.RowKit

theorem fixB_val (c : Nat) (o z : List Nat) (hc : c ≤ 65535) (hl : o.length = z.length) (ho : ∀ x ∈ o, x < 256) (hz : ∀ x ∈ z, x < 256) (A : Nat) (hA : (65535 - c) % 65535 = (A + S.wv false o) % 65535) :
    (65535 - S.fixB c o z) % 65535 = (A + S.wv false z) % 65535 ∧ S.fixB c o z ≤ 65535 ∧ (c ≤ 65534 ∨ (0 < o.length ∧ S.wv false o = 0) → S.fixB c o z ≤ 65534) := by
  by_cases h0 : o.length = 0
  · have e1 : o = [] := List.eq_nil_of_length_eq_zero h0
    have e2 : z = [] := List.eq_nil_of_length_eq_zero (by omega)
    subst e1 e2
    refine ⟨by simpa [S.fixB, S.wv] using hA, by simpa [S.fixB] using hc, ?_⟩
    rintro (h | ⟨h, _⟩)
    · simpa [S.fixB] using h
    · simp at h
  · have hst := fixB_step c o z hl (by omega)
    have hu : S.wv false o = word1 o + S.wv false (o.drop 2) := by
      by_cases h1 : o.length = 1
      · rw [wv_one o h1, List.drop_of_length_le (by omega)]; rfl
      · exact wv_two o (by omega)
    have hv : S.wv false z = word1 z + S.wv false (z.drop 2) := by
      by_cases h1 : z.length = 1
      · rw [wv_one z h1, List.drop_of_length_le (by omega)]; rfl
      · exact wv_two z (by omega)
    have hou := word1_le o ho
    have hzu := word1_le z hz
    have hm := S.fold_mod (65535 - c + (65535 - word1 o) + word1 z)
    have hz0 := S.fold_zero (65535 - c + (65535 - word1 o) + word1 z)
    have hle := S.fold_le (65535 - c + (65535 - word1 o) + word1 z)
    have hf : S.fix1 c (word1 o) (word1 z) = 65535 - S.fold (65535 - c + (65535 - word1 o) + word1 z) := rfl
    have ih := fixB_val (S.fix1 c (word1 o) (word1 z)) (o.drop 2) (z.drop 2) (S.fix1_le _ _ _) (by simp [hl]) (fun x hx => ho x (List.mem_of_mem_drop hx)) (fun x hx => hz x (List.mem_of_mem_drop hx)) (A + word1 z) (by rw [hf]; omega)
    rw [hst]
    refine ⟨by rw [ih.1, hv]; congr 1; omega, ih.2.1, fun h => ih.2.2 (.inl ?_)⟩
    rw [hf]
    rcases h with h | ⟨_, h⟩
    · omega
    · omega
termination_by o.length
decreasing_by simp; omega
theorem fixB_pad (c : Nat) (o z : List Nat) (x : Nat) (hl : o.length = z.length) (hodd : o.length % 2 = 1) (ho : ∀ y ∈ o, y < 256) (hx : x < 256) : S.fixB c (o ++ [x]) (z ++ [x]) = S.fixB c o z := by
  match o, z, hl with
  | [a], [b], _ =>
    have := ho a (by simp)
    simp only [List.cons_append, List.nil_append, S.fixB]
    unfold S.fix1
    congr 2
    omega
  | a :: a' :: o, b :: b' :: z, h =>
    simp only [List.cons_append, S.fixB]
    exact fixB_pad _ o z x (by simpa using h) (by simp at hodd; omega) (fun y hy => ho y (by simp [hy])) hx
  | [], [], _ => simp at hodd

/-- the bytes at a place replaced -/
def repl (m : List Nat) (i : Nat) (z : List Nat) : List Nat := m.take i ++ z ++ m.drop (i + z.length)
theorem repl_len (m : List Nat) (i : Nat) (z : List Nat) (h : i + z.length ≤ m.length) : (repl m i z).length = m.length := by simp [repl]; omega
theorem repl_nil (m : List Nat) (i : Nat) : repl m i [] = m := by simp [repl]
theorem repl_step (m : List Nat) (i : Nat) (z : List Nat) (k : Nat) (hk : k < z.length) (h : i + z.length ≤ m.length) : (repl m i (z.take k)).set (i + k) (z.getD k 0) = repl m i (z.take (k + 1)) := by
  have e1 : (z.take k).length = k := by simp; omega
  have e2 : (z.take (k + 1)).length = k + 1 := by simp; omega
  unfold repl
  rw [e1, e2]
  have hd : m.drop (i + k) = m.getD (i + k) 0 :: m.drop (i + k + 1) := by
    rw [List.drop_eq_getElem_cons (show i + k < m.length by omega)]
    simp [List.getD, show i + k < m.length by omega]
  have ht : z.take (k + 1) = z.take k ++ [z.getD k 0] := by
    rw [List.take_succ_eq_append_getElem hk]
    simp [List.getD, hk]
  rw [hd, ht, List.set_append_right _ _ (by simp; omega)]
  have e3 : (m.take i ++ z.take k).length = i + k := by simp; omega
  rw [e3, Nat.sub_self]
  simp [Nat.add_assoc]
theorem repl_lt (m : List Nat) (i : Nat) (z : List Nat) (hm : ∀ x ∈ m, x < 256) (hz : ∀ x ∈ z, x < 256) : ∀ x ∈ repl m i z, x < 256 := by
  intro x hx
  simp only [repl, List.mem_append] at hx
  rcases hx with (hx | hx) | hx
  · exact hm x (List.mem_of_mem_take hx)
  · exact hz x hx
  · exact hm x (List.mem_of_mem_drop hx)
/-- turning along is reckoning anew -/
theorem turned (m z : List Nat) (i : Nat) (hi : i % 2 = 0) (h : i + z.length ≤ m.length) (hm : ∀ x ∈ m, x < 256) (hz : ∀ x ∈ z, x < 256) :
    (S.wv false (repl m i z) = 0 → z.length = 0 ∨ S.fixB (65535 - S.fold (S.wv false m)) ((m.drop i).take z.length) z = 0) ∧
    (S.wv false (repl m i z) ≠ 0 → S.fixB (65535 - S.fold (S.wv false m)) ((m.drop i).take z.length) z = 65535 - S.fold (S.wv false (repl m i z))) := by
  by_cases hn : z.length = 0
  · have e : z = [] := List.eq_nil_of_length_eq_zero hn
    subst e
    refine ⟨fun _ => .inl rfl, fun _ => ?_⟩
    rw [repl_nil]
    simp [fixB_nil]
  · obtain ⟨o, ho⟩ : ∃ o, o = (m.drop i).take z.length := ⟨_, rfl⟩
    have hol : o.length = z.length := by rw [ho]; simp; omega
    have em : m = m.take i ++ o ++ m.drop (i + z.length) := by
      rw [ho, List.append_assoc]
      have : (m.drop i).take z.length ++ m.drop (i + z.length) = m.drop i := by
        rw [← List.drop_drop]
        exact List.take_append_drop _ _
      rw [this, List.take_append_drop]
    have hti : (m.take i).length % 2 = 0 := by simp; omega
    have V : S.wv false m = S.wv false (m.take i) + S.wv false o + S.wv (S.par false z.length) (m.drop (i + z.length)) := by
      conv => lhs; rw [em]
      rw [List.append_assoc, wv_even_append _ _ hti, S.wv_append, hol]
      omega
    have V' : S.wv false (repl m i z) = S.wv false (m.take i) + S.wv false z + S.wv (S.par false z.length) (m.drop (i + z.length)) := by
      rw [repl, List.append_assoc, wv_even_append _ _ hti, S.wv_append]
      omega
    have hfl := S.fold_le (S.wv false m)
    have hfm := S.fold_mod (S.wv false m)
    have hfz := S.fold_zero (S.wv false m)
    have hk := fixB_val (65535 - S.fold (S.wv false m)) o z (by omega) hol (by rw [ho]; exact fun x hx => hm x (List.mem_of_mem_drop (List.mem_of_mem_take hx))) hz (S.wv false (m.take i) + S.wv (S.par false z.length) (m.drop (i + z.length))) (by omega)
    rw [← ho]
    obtain ⟨h1, h2, h3⟩ := hk
    have h4 := h3 (by
      by_cases hf0 : S.fold (S.wv false m) = 0
      · have := hfz.1 hf0
        exact .inr ⟨by omega, by omega⟩
      · exact .inl (by omega))
    have g1 := S.fold_le (S.wv false (repl m i z))
    have g2 := S.fold_mod (S.wv false (repl m i z))
    have g3 := S.fold_zero (S.wv false (repl m i z))
    generalize S.fixB (65535 - S.fold (S.wv false m)) o z = r at *
    constructor
    · intro hv; refine .inr ?_; omega
    · intro hv
      have g4 : S.fold (S.wv false (repl m i z)) ≠ 0 := fun e => hv (g3.1 e)
      omega

def allZ (l : List Nat) : Bool := l.all (fun x => decide (x = 0))
theorem allZ_wv (l : List Nat) : allZ l = decide (S.wv false l = 0) := by
  unfold allZ
  by_cases h : S.wv false l = 0
  · rw [decide_eq_true h, List.all_eq_true]
    intro x hx
    exact decide_eq_true (S.wv_zero _ l h x hx)
  · rw [decide_eq_false h, List.all_eq_false]
    refine Classical.byContradiction fun hc => h (S.wv_zeros _ l fun x hx => ?_)
    refine Classical.byContradiction fun hx0 => hc ⟨x, hx, by simpa using hx0⟩
set_option maxHeartbeats 400000 in
theorem zeros_any (a : Option Addr) (len cap : Nat) (l : List Nat) (w : World) (hl : l.length = len) (hs : Seg .u8 w a (toI l)) (h2 : len ≤ 9223372036854775807) :
    Calls Try.prog 22 #[.slice a len cap] w fun e w' => e = .returned (.bool (allZ l)) ∧ w = w' := by
  subst hl
  go_enter Try.func22, Try.ntmps22
  go_wp2
  go_loop [3] (fun ix => ∃ k : Nat, k ≤ l.length ∧ ix = .int .i64 k ∧ Hid (∀ j, j < k → l.getD j 0 = 0)) (fun ix => l.length - (intOf ix).toNat)
  case atStart => exact ⟨0, Nat.zero_le _, rfl, fun j hj => by omega⟩
  case round =>
    obtain ⟨k, hk, rfl, HZ⟩ := hrel
    by_cases hlt : k < l.length
    · obtain ⟨b, off, rfl, hc⟩ := seg_at hs k hlt
      have hck := hc k hlt
      obtain ⟨x, hx⟩ : ∃ x, x = l.getD k 0 := ⟨_, rfl⟩
      rw [← hx] at hck
      have HX : Hid (x = l.getD k 0) := hx
      clear hx hc
      by_cases hx0 : x = 0
      · subst hx0
        go_wp2
        go_round
        case rel => exact ⟨k + 1, by omega, by go_num, fun j hj => by rcases Nat.lt_succ_iff_lt_or_eq.1 hj with h | rfl; exact HZ.out j h; exact HX.out.symm⟩
        case measure => simp [intOf]; omega
      · have hb : ((x : Int) != 0) = true := by simp; omega
        have HA : Hid (allZ l = false) := by
          show _ = _
          unfold allZ
          rw [List.all_eq_false]
          refine ⟨l[k], List.getElem_mem _, ?_⟩
          have := HX.out
          simp [List.getD, hlt] at this
          simp
          omega
        go_wp2
        go_ret
        exact ⟨by rw [HA.out]; rfl, rfl⟩
    · have HA : Hid (allZ l = true) := by
        show _ = _
        unfold allZ
        rw [List.all_eq_true]
        intro x hx
        obtain ⟨j, hj, rfl⟩ := List.getElem_of_mem hx
        have := HZ.out j (by omega)
        simp [List.getD, hj] at this
        simpa using this
      go_wp2
      go_ret
      exact ⟨by rw [HA.out]; rfl, rfl⟩
end Go.Proofs.Ytfnmidaiabjpbaa
