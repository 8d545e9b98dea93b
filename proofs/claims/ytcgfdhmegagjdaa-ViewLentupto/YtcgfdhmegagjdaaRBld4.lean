/-
  Patch: a number is written over what stands there.
-/
import Derived.Test.YtcgfdhmegagjdaaRBld3
import Derived.Laws.OwnMore
namespace Go.Proofs.Ytcgfdhmegagjdaa
open Go.RowKit

/-- m laid over l from at' on -/
def spl (l : List Nat) (at' : Nat) (m : List Nat) : List Nat := l.take at' ++ m ++ l.drop (at' + m.length)
theorem spl_len (l : List Nat) (at' : Nat) (m : List Nat) (h : at' + m.length ≤ l.length) : (spl l at' m).length = l.length := by
  simp [spl]; omega
theorem spl_get (l : List Nat) (at' : Nat) (m : List Nat) (h : at' + m.length ≤ l.length) (i : Nat) : (spl l at' m)[i]? = if at' ≤ i ∧ i < at' + m.length then m[i - at']? else l[i]? := by
  unfold spl
  rw [List.append_assoc]
  by_cases h1 : i < at'
  · rw [List.getElem?_append_left (by simp; omega), if_neg (by omega), List.getElem?_take, if_pos h1]
  · rw [List.getElem?_append_right (by simp; omega)]
    have e : (l.take at').length = at' := by simp; omega
    rw [e]
    by_cases h2 : i < at' + m.length
    · rw [List.getElem?_append_left (by omega), if_pos (by omega)]
    · rw [List.getElem?_append_right (by omega), if_neg (by omega), List.getElem?_drop]
      congr 1; omega
theorem spl_256 (l : List Nat) (at' : Nat) (m : List Nat) (h : ∀ x ∈ l, x < 256) (h2 : ∀ x ∈ m, x < 256) : ∀ x ∈ spl l at' m, x < 256 := by
  intro x hx
  simp only [spl, List.mem_append] at hx
  rcases hx with (hx | hx) | hx
  · exact h x (List.mem_of_mem_take hx)
  · exact h2 x hx
  · exact h x (List.mem_of_mem_drop hx)
theorem spl_up (l : List Nat) (at' : Nat) (m : List Nat) (i : Nat) (hi : i < m.length) (h : at' + m.length ≤ l.length) : (spl l at' (m.take i)).set (at' + i) (m.getD i 0) = spl l at' (m.take (i + 1)) := by
  apply List.ext_getElem?
  intro j
  rw [List.getElem?_set, spl_get _ _ _ (by simp; omega), spl_get _ _ _ (by simp; omega), spl_len _ _ _ (by simp; omega)]
  have e1 : (m.take i).length = i := by simp; omega
  have e2 : (m.take (i + 1)).length = i + 1 := by simp; omega
  rw [e1, e2]
  by_cases hj : at' + i = j
  · subst hj
    rw [if_pos rfl, if_pos (by omega), if_pos (by omega), Nat.add_sub_cancel_left, List.getElem?_take, if_pos (by omega)]
    simp [List.getD, hi]
  · rw [if_neg hj]
    by_cases h3 : at' ≤ j ∧ j < at' + i
    · rw [if_pos h3, if_pos (by omega), List.getElem?_take, List.getElem?_take, if_pos (by omega), if_pos (by omega)]
    · rw [if_neg h3, if_neg (by omega)]
/-- the same from behind -/
def spd (l : List Nat) (at' : Nat) (m : List Nat) (k : Nat) : List Nat := spl l (at' + (m.length - k)) (m.drop (m.length - k))
theorem spd_zero (l : List Nat) (at' : Nat) (m : List Nat) : spd l at' m 0 = l := by
  simp [spd, spl]
theorem spd_all (l : List Nat) (at' : Nat) (m : List Nat) : spd l at' m m.length = spl l at' m := by simp [spd]
theorem spd_up (l : List Nat) (at' : Nat) (m : List Nat) (k : Nat) (hk : k < m.length) (h : at' + m.length ≤ l.length) : (spd l at' m k).set (at' + (m.length - 1 - k)) (m.getD (m.length - 1 - k) 0) = spd l at' m (k + 1) := by
  apply List.ext_getElem?
  intro j
  unfold spd
  rw [List.getElem?_set, spl_get _ _ _ (by simp; omega), spl_get _ _ _ (by simp; omega), spl_len _ _ _ (by simp; omega)]
  simp only [List.length_drop, List.getElem?_drop]
  by_cases hj : at' + (m.length - 1 - k) = j
  · subst hj
    rw [if_pos rfl, if_pos (by omega), if_pos (by omega)]
    rw [show m.length - (k + 1) + (at' + (m.length - 1 - k) - (at' + (m.length - (k + 1)))) = m.length - 1 - k by omega]
    simp [List.getD, show m.length - 1 - k < m.length by omega]
  · rw [if_neg hj]
    by_cases h3 : at' + (m.length - k) ≤ j ∧ j < at' + (m.length - k) + (m.length - (m.length - k))
    · rw [if_pos h3, if_pos (by omega)]
      congr 1; omega
    · rw [if_neg h3, if_neg (by omega)]
theorem byN_at (n x k : Nat) (h : k < n) : (byN n x).getD (n - 1 - k) 0 = x / 256 ^ k % 256 := by
  simp [byN, List.getD, show n - 1 - k < n by omega]
  rw [show n - 1 - (n - 1 - k) = k by omega]
theorem set_u8 (l : List Nat) (m y : Nat) : ((toI l).map (Value.int .u8)).set m (.int .u8 (y : Int)) = (toI (l.set m y)).map (Value.int .u8) := by
  simp [toI, List.map_set]
theorem wrt_own (w : World) (base g len c off n x : Nat) (l : List Nat) (hl : l.length = len) (hin : off + n ≤ len) (h : w.ownsRow base 5 1 (.slice (some ⟨g, 0, none⟩) len c) len ((toI l).map (Value.int .u8))) (k : Nat) (hk : k ≤ n) :
    (wrt w g off n x k).ownsRow base 5 1 (.slice (some ⟨g, 0, none⟩) len c) len ((toI (spd l off (byN n x) k)).map (Value.int .u8)) := by
  induction k with
  | zero => rw [spd_zero]; exact h
  | succ k ih =>
    have h1 := (ih (by omega)).stored (off + (n - 1 - k)) (.int .u8 ((x / 256 ^ k % 256 : Nat) : Int))
    have h2 := h1.1
    rw [set_u8] at h2
    have e := spd_up l off (byN n x) k (by rw [byN_len]; omega) (by rw [byN_len]; omega)
    rw [byN_len, byN_at n x k (by omega)] at e
    rw [e] at h2
    exact h2

/-- what Patch answers, and what stands then -/
def tE (at' n : Int) (x len : Nat) : Int := if n < 1 ∨ 8 < n then 1 else if 256 ^ n.toNat ≤ x then 12 else if at' < 0 ∨ (len : Int) < at' + n then 10 else 0
def tL (at' n : Int) (x : Nat) (l : List Nat) : List Nat := if tE at' n x l.length = 0 then spl l at'.toNat (byN n.toNat x) else l
theorem tE_fit (at' : Int) (m x len : Nat) (h1 : ¬ ((m : Int) < 1 ∨ 8 < (m : Int))) (h : x < 256 ^ m) : tE at' m x len = if at' < 0 ∨ (len : Int) < at' + m then 10 else 0 := by
  unfold tE
  rw [if_neg h1, Int.toNat_natCast, if_neg (by omega)]
theorem tE_zero (at' n : Int) (x len : Nat) (h : tE at' n x len = 0) : 1 ≤ n ∧ n ≤ 8 ∧ 0 ≤ at' ∧ at' + n ≤ len := by
  unfold tE at h
  split at h
  · simp at h
  · split at h
    · simp at h
    · split at h
      · simp at h
      · omega
theorem tL_len (at' n : Int) (x : Nat) (l : List Nat) : (tL at' n x l).length = l.length := by
  unfold tL
  split
  · rename_i e
    have := tE_zero _ _ _ _ e
    exact spl_len _ _ _ (by rw [byN_len]; omega)
  · rfl
theorem tL_256 (at' n : Int) (x : Nat) (l : List Nat) (h : ∀ y ∈ l, y < 256) : ∀ y ∈ tL at' n x l, y < 256 := by
  unfold tL
  split
  · exact spl_256 _ _ _ h (byN_lt _ _)
  · exact h
theorem own_block {w : World} {base : Nat} {e : TypeId} {v : Value} {n : Nat} {xs : List Value} (h : w.ownsRow base e 1 v n xs) (hn : 0 < n) : ∃ g c, v = .slice (some ⟨g, 0, none⟩) n c ∧ n ≤ c ∧ c ≤ maxLen := by
  rcases h.2 with ⟨_, e2⟩ | ⟨g, cap, cur, e, _, _, h1, h2, _⟩
  · omega
  · exact ⟨g, cap, e, h1, h2⟩

set_option maxRecDepth 100000 in
set_option maxHeartbeats 800000 in
theorem patchB_total (B : Nat) (v : Value) (mx : Nat) (l : List Nat) (at' n : Int) (x : Nat) (w : World) (h : Bld w B v mx l) (ha : at' ≤ 9223372036854775807) :
    Calls Try.prog 43 #[.pointer (some ⟨B, 0, none⟩), .int .i64 at', .int .i64 n, .int .u64 x] w fun e w' => e = .returned (.int .i64 (tE at' n x l.length)) ∧ After Bld w B v mx (tL at' n x l) w' := by
  by_cases h1 : n < 1 ∨ 8 < n
  · have e : tE at' n x l.length = 1 := if_pos h1
    rw [tL, e, if_neg (by decide)]
    have HH : Hid (n < 1 ∨ 8 < n) := h1
    clear h1
    go_enter Try.func43, Try.ntmps43
    go_wp2_with fail
    refine (fits_arg n x _ HH.out).mono ?_
    rintro e w1 ⟨rfl, rfl⟩
    go_wp2
    go_ret
    exact ⟨rfl, .same h (Below.refl _ _)⟩
  · obtain ⟨m, rfl⟩ : ∃ m : Nat, n = (m : Int) := ⟨n.toNat, by omega⟩
    by_cases h2 : 256 ^ m ≤ x
    · have e : tE at' m x l.length = 12 := by unfold tE; rw [if_neg h1, if_pos (by simpa using h2)]
      rw [tL, e, if_neg (by decide)]
      have HH : Hid (256 ^ m ≤ x) := h2
      clear h2
      go_enter Try.func43, Try.ntmps43
      go_wp2_with fail
      refine (fits_val m x _ (by omega) (by omega) HH.out).mono ?_
      rintro e w1 ⟨rfl, rfl⟩
      go_wp2
      go_ret
      exact ⟨rfl, .same h (Below.refl _ _)⟩
    · have HS : Hid (x < 256 ^ m) := by show _ < _; omega
      have h0 := h.c0
      obtain ⟨a, c, hv⟩ := owns_shape h.own
      rw [hv] at h0
      have hcap : l.length ≤ c ∧ c ≤ 9223372036854775807 := by
        obtain ⟨_, _, e, _, _, c1, c2⟩ := owns_seg h.own
        rw [hv] at e
        simp only [Value.slice.injEq, true_and] at e
        unfold maxLen at c2
        omega
      have HV : Hid (v = .slice a l.length c) := hv
      by_cases h3 : at' < 0 ∨ (l.length : Int) < at' + m
      · have e : tE at' m x l.length = 10 := by rw [tE_fit at' m x l.length h1 HS.out, if_pos h3]
        rw [tL, e, if_neg (by decide)]
        have HH : Hid (at' < 0 ∨ (l.length : Int) < at' + m) := h3
        clear h3 h2 e hv
        go_enter Try.func43, Try.ntmps43
        go_wp2_with fail
        refine (fits_ok m x _ (by omega) (by omega) HS.out).mono ?_
        rintro e w1 ⟨rfl, rfl⟩
        go_wp2_with fail
        refine (window_out a l.length c at' m _ (by omega) (by omega) hcap.1 hcap.2 ha HH.out).mono ?_
        rintro e w2 ⟨rfl, hb2⟩
        go_wp2
        go_ret
        exact ⟨rfl, .same (h.below hb2) hb2⟩
      · have e : tE at' m x l.length = 0 := by rw [tE_fit at' m x l.length h1 HS.out, if_neg h3]
        rw [tL, e, if_pos rfl]
        obtain ⟨p, rfl⟩ : ∃ p : Nat, at' = (p : Int) := ⟨at'.toNat, by omega⟩
        have hpm : p + m ≤ l.length := by omega
        have hm1 : 1 ≤ m := by omega
        have hm8 : m ≤ 8 := by omega
        obtain ⟨g, c', hv2, _, _⟩ := own_block h.own (by omega)
        clear HV
        subst hv2
        simp only [Value.slice.injEq, true_and] at hv
        obtain ⟨rfl, rfl⟩ := hv
        have hca : cutA (some ⟨g, 0, none⟩) p m = some ⟨g, p, none⟩ := by
          unfold cutA; rw [if_neg (by omega)]; simp [Addr.add]; omega
        simp only [Int.toNat_natCast]
        clear h3 h2 e h1
        go_enter Try.func43, Try.ntmps43
        go_wp2_with fail
        refine (fits_ok m x _ hm1 hm8 HS.out).mono ?_
        rintro e w1 ⟨rfl, rfl⟩
        go_wp2_with fail
        refine (window_ok (some ⟨g, 0, none⟩) l.length c' p m _ hpm hcap.1 hcap.2).mono ?_
        rintro e w2 ⟨rfl, hb2⟩
        rw [hca]
        have h' := h.below hb2
        have hcel : ∀ i, i < m → ∃ y, w2.cell? ⟨g, p + i, none⟩ = some y := fun i hi => by
          have := h'.own.cellAt (p + i) (by omega)
          rw [List.getElem?_eq_getElem (by simp [toI]; omega)] at this
          exact ⟨_, this⟩
        have hne : B ≠ g := fun e => h'.ne (by rw [e]; rfl)
        have HO : Hid _ := wrt_own w2 0 g l.length c' p m x l rfl hpm h'.own m (Nat.le_refl _)
        go_wp2_with fail
        refine (write_any g p m m x w2 hcel (fun i => h'.own.frozenAt i) hm8).mono ?_
        rintro e w3 ⟨rfl, hw3⟩
        have hch : Ch (fun k => k = g) w2 w3 := by rw [hw3]; exact wrt_ch _ _ _ _ _ _
        have hown : w3.ownsRow 0 5 1 (.slice (some ⟨g, 0, none⟩) l.length c') (spl l p (byN m x)).length ((toI (spl l p (byN m x))).map (Value.int .u8)) := by
          have e1 : spd l p (byN m x) m = spl l p (byN m x) := by
            have := spd_all l p (byN m x); rwa [byN_len] at this
          have := HO.out
          rw [← hw3, e1] at this
          rw [spl_len _ _ _ (by rw [byN_len]; exact hpm)]
          exact this
        have hB3 : Bld w3 B (.slice (some ⟨g, 0, none⟩) l.length c') mx (spl l p (byN m x)) :=
          ⟨hch.cell h'.c0 hne, hch.cell h'.c1 hne, fun j => (hch.frozen (p := ⟨B, j, none⟩) h'.lt hne).trans (h'.fz j), Nat.lt_of_lt_of_le h'.lt hch.size, hown, h'.ne⟩
        have hA : After Bld w B (.slice (some ⟨g, 0, none⟩) l.length c') mx (spl l p (byN m x)) w3 :=
          ⟨_, hB3, fun _ hq => .inl hq, (Ch.ofBelow hb2).trans hch (fun y _ hy => .inr (by rw [hy]; rfl))⟩
        clear hB3 hown hch hw3 HO hcel
        go_wp2
        go_ret
        exact ⟨rfl, hA⟩
end Go.Proofs.Ytcgfdhmegagjdaa
