/-
  The statements' filledBy and filledInts: a buffer of the caller's is filled anew.
-/
import Derived.Test.YtebpaolniemfgabOwn
namespace Go.Proofs.Ytebpaolniemfgab
open Go.RowKit

/-- what the buffer holds behind k places -/
def fillI (mark : Int) (l : List Int) (n : Nat) : List Int := (List.range n).map (fun i => if i < l.length then l.getD i 0 else mark)
theorem fillI_len (mark : Int) (l : List Int) (n : Nat) : (fillI mark l n).length = n := by simp [fillI]
theorem fillI_take (mark : Int) (l : List Int) (n k : Nat) (h : k ≤ n) : (fillI mark l n).take k = fillI mark l k := by
  unfold fillI
  rw [← List.map_take, List.take_range, Nat.min_eq_left h]
/-- the row in the middle of the filling -/
def midI (mark : Int) (l : List Int) (xs : List Int) (k : Nat) : List Int := fillI mark l k ++ xs.drop k
theorem midI_len (mark : Int) (l xs : List Int) (k : Nat) (h : k ≤ xs.length) : (midI mark l xs k).length = xs.length := by
  simp [midI, fillI]; omega
theorem midI_set (mark : Int) (l xs : List Int) (k : Nat) (h : k < xs.length) (v : Int) : (midI mark l xs k).set k v = fillI mark l k ++ v :: xs.drop (k + 1) := by
  unfold midI
  rw [List.set_append_right _ _ (by rw [fillI_len]; exact Nat.le_refl _), fillI_len, Nat.sub_self, List.drop_eq_getElem_cons h]
  rfl
theorem fill_step (mark : Int) (l xs : List Int) (k : Nat) (v : Int) (hv : v = if k < l.length then l.getD k 0 else mark) : fillI mark l k ++ v :: xs.drop (k + 1) = midI mark l xs (k + 1) := by
  unfold midI
  have e : fillI mark l (k + 1) = fillI mark l k ++ [v] := by
    unfold fillI
    rw [List.range_succ, List.map_append, hv]
    rfl
  rw [e, List.append_assoc]
  rfl
theorem grown_trans {a b c : World} {r : Option Nat} (h : a.grownBy b r) (k : b.grownBy c r) : a.grownBy c r :=
  ⟨k.os.trans h.os, k.tape.trans h.tape, k.output.trans h.output, Nat.le_trans h.size k.size, fun i hi hr => (k.block i (Nat.lt_of_lt_of_le hi h.size) hr).trans (h.block i hi hr)⟩
theorem mid_two (k' : IntKind) (mark : Int) (l xs : List Int) (k : Nat) (h : k < xs.length) (u v : Int) (hv : v = if k < l.length then l.getD k 0 else mark) :
    (((midI mark l xs k).map (Value.int k')).set k (.int k' u)).set k (.int k' v) = (midI mark l xs (k + 1)).map (Value.int k') := by
  rw [List.set_set, ← fill_step mark l xs k v hv, ← midI_set mark l xs k h v, List.map_set]
theorem mid_one (k' : IntKind) (mark : Int) (l xs : List Int) (k : Nat) (h : k < xs.length) (v : Int) (hv : v = if k < l.length then l.getD k 0 else mark) :
    ((midI mark l xs k).map (Value.int k')).set k (.int k' v) = (midI mark l xs (k + 1)).map (Value.int k') := by
  rw [← fill_step mark l xs k v hv, ← midI_set mark l xs k h v, List.map_set]

set_option maxHeartbeats 800000 in
theorem filledInts_any (g n : Nat) (a : Option Addr) (ll ca : Nat) (l xs : List Int) (mark : Int) (base : Nat) (w : World) (hll : l.length = ll) (hl : Seg .i64 w a l) (hin : In g a ll)
    (hown : w.ownsRow base 3 1 (.slice (some ⟨g, 0, none⟩) n n) n (xs.map (Value.int .i64))) (hn : n ≤ 1048576) (hl2 : ll ≤ 1048576) :
    Calls Try.prog 24 #[.slice (some ⟨g, 0, none⟩) n n, .slice a ll ca, .int .i64 mark] w fun e w' => e = .returned (.tuple #[]) ∧
      w'.ownsRow base 3 1 (.slice (some ⟨g, 0, none⟩) n n) n ((fillI mark l n).map (Value.int .i64)) ∧ w.grownBy w' (some g) := by
  subst hll
  have hxl : xs.length = n := by have := hown.1; simpa using this
  have HXL : Hid (xs.length = n) := hxl
  clear hxl
  go_enter Try.func24, Try.ntmps24
  go_wp2
  go_loopw [6] (fun ix wr => ∃ k : Nat, k ≤ n ∧ ix = .int .i64 k ∧ wr.ownsRow base 3 1 (.slice (some ⟨g, 0, none⟩) n n) n ((midI mark l xs k).map (Value.int .i64)) ∧ w.grownBy wr (some g)) (fun ix _ => n - (intOf ix).toNat)
  case atStart => exact ⟨0, Nat.zero_le _, rfl, by simpa [midI, fillI] using hown, ⟨rfl, rfl, rfl, Nat.le_refl _, fun _ _ _ => rfl⟩⟩
  case round =>
    obtain ⟨k, hk, rfl, hor, hgr⟩ := hrel
    by_cases hlt : k < n
    · have hc0 := hor.cellAt k (by omega)
      have hml : k < (midI mark l xs k).length := by rw [midI_len _ _ _ _ (by rw [HXL.out]; exact hk), HXL.out]; exact hlt
      have hc : wr.cell? ⟨g, k, none⟩ = some (.int .i64 ((midI mark l xs k).getD k 0)) := by rw [hc0]; simp [List.getD, hml]
      have hf := hor.frozenAt k
      have hs1 := (hor.stored k (.int .i64 mark)).1
      have hg1 := (hor.stored k (.int .i64 mark)).2
      have hc1 : (wr.setCell ⟨g, k, none⟩ (.int .i64 mark)).cell? ⟨g, k, none⟩ = some (.int .i64 mark) := World.cell?_setCell_same _ _ _ hc
      obtain ⟨old, hold⟩ : ∃ old, old = (midI mark l xs k).getD k 0 := ⟨_, rfl⟩
      rw [← hold] at hc
      clear hold hc0
      by_cases hkl : k < l.length
      · have hsrc : wr.cell? (⟨(a.getD ⟨0, 0, none⟩).block, (a.getD ⟨0, 0, none⟩).off + k, none⟩ : Addr) = some (.int .i64 (l.getD k 0)) ∧ ∃ b off, a = some ⟨b, off, none⟩ ∧ b ≠ g := by
          rcases hl with hnil | ⟨b, off, rfl, hlc⟩
          · rw [hnil] at hkl; simp at hkl
          · rcases hin with h0 | ⟨b', off', e, hbg⟩
            · omega
            · simp only [Option.some.injEq, Addr.mk.injEq, and_true] at e
              obtain ⟨rfl, rfl⟩ := e
              exact ⟨hgr.cell (hlc k hkl) (by simp; omega), b, off, rfl, by omega⟩
        obtain ⟨hsc, b, off, rfl, hbg⟩ := hsrc
        simp only [Option.getD_some] at hsc
        obtain ⟨x, hx⟩ : ∃ x, x = l.getD k 0 := ⟨_, rfl⟩
        rw [← hx] at hsc
        have HX : Hid (x = l.getD k 0) := hx
        have hsc2 : (wr.setCell ⟨g, k, none⟩ (.int .i64 mark)).cell? ⟨b, off + k, none⟩ = some (.int .i64 x) := by
          rw [World.cell?_setCell_other _ _ _ _ (by simp only [ne_eq, Addr.mk.injEq, not_and]; intro h; exact absurd h.symm hbg)]; exact hsc
        clear hx
        go_wp2
        go_roundw
        case rel =>
          have hs2 := hs1.stored k (.int .i64 x)
          rw [mid_two .i64 mark l xs k (by rw [HXL.out]; exact hlt) mark x (by rw [if_pos hkl]; exact HX.out)] at hs2
          exact ⟨k + 1, by omega, by go_num, hs2.1, grown_trans (grown_trans hgr hg1) hs2.2⟩
        case measure => simp [intOf]; omega
      · go_wp2
        go_roundw
        case rel =>
          rw [mid_one .i64 mark l xs k (by rw [HXL.out]; exact hlt) mark (by rw [if_neg hkl])] at hs1
          exact ⟨k + 1, by omega, by go_num, hs1, grown_trans hgr hg1⟩
        case measure => simp [intOf]; omega
    · obtain rfl : k = n := by omega
      have he : midI mark l xs k = fillI mark l k := by unfold midI; rw [List.drop_of_length_le (by rw [HXL.out]; exact Nat.le_refl _), List.append_nil]
      rw [he] at hor
      go_wp2
      go_end0
      exact ⟨rfl, hor, hgr⟩

set_option maxHeartbeats 800000 in
theorem filledBy_any (g n : Nat) (a : Option Addr) (ll ca : Nat) (l xs : List Int) (base : Nat) (w : World) (hll : l.length = ll) (hl : Seg .u8 w a l) (hin : In g a ll)
    (hown : w.ownsRow base 5 1 (.slice (some ⟨g, 0, none⟩) n n) n (xs.map (Value.int .u8))) (hn : n ≤ 1048576) (hl2 : ll ≤ 1048576) :
    Calls Try.prog 23 #[.slice (some ⟨g, 0, none⟩) n n, .slice a ll ca] w fun e w' => e = .returned (.tuple #[]) ∧
      w'.ownsRow base 5 1 (.slice (some ⟨g, 0, none⟩) n n) n ((fillI 0 l n).map (Value.int .u8)) ∧ w.grownBy w' (some g) := by
  subst hll
  have hxl : xs.length = n := by have := hown.1; simpa using this
  have HXL : Hid (xs.length = n) := hxl
  clear hxl
  go_enter Try.func23, Try.ntmps23
  go_wp2
  go_loopw [4] (fun ix wr => ∃ k : Nat, k ≤ n ∧ ix = .int .i64 k ∧ wr.ownsRow base 5 1 (.slice (some ⟨g, 0, none⟩) n n) n ((midI 0 l xs k).map (Value.int .u8)) ∧ w.grownBy wr (some g)) (fun ix _ => n - (intOf ix).toNat)
  case atStart => exact ⟨0, Nat.zero_le _, rfl, by simpa [midI, fillI] using hown, ⟨rfl, rfl, rfl, Nat.le_refl _, fun _ _ _ => rfl⟩⟩
  case round =>
    obtain ⟨k, hk, rfl, hor, hgr⟩ := hrel
    by_cases hlt : k < n
    · have hc0 := hor.cellAt k (by omega)
      have hml : k < (midI 0 l xs k).length := by rw [midI_len _ _ _ _ (by rw [HXL.out]; exact hk), HXL.out]; exact hlt
      have hc : wr.cell? ⟨g, k, none⟩ = some (.int .u8 ((midI 0 l xs k).getD k 0)) := by rw [hc0]; simp [List.getD, hml]
      have hf := hor.frozenAt k
      have hs1 := (hor.stored k (.int .u8 0)).1
      have hg1 := (hor.stored k (.int .u8 0)).2
      have hc1 : (wr.setCell ⟨g, k, none⟩ (.int .u8 0)).cell? ⟨g, k, none⟩ = some (.int .u8 0) := World.cell?_setCell_same _ _ _ hc
      obtain ⟨old, hold⟩ : ∃ old, old = (midI 0 l xs k).getD k 0 := ⟨_, rfl⟩
      rw [← hold] at hc
      clear hold hc0
      by_cases hkl : k < l.length
      · have hsrc : wr.cell? (⟨(a.getD ⟨0, 0, none⟩).block, (a.getD ⟨0, 0, none⟩).off + k, none⟩ : Addr) = some (.int .u8 (l.getD k 0)) ∧ ∃ b off, a = some ⟨b, off, none⟩ ∧ b ≠ g := by
          rcases hl with hnil | ⟨b, off, rfl, hlc⟩
          · rw [hnil] at hkl; simp at hkl
          · rcases hin with h0 | ⟨b', off', e, hbg⟩
            · omega
            · simp only [Option.some.injEq, Addr.mk.injEq, and_true] at e
              obtain ⟨rfl, rfl⟩ := e
              exact ⟨hgr.cell (hlc k hkl) (by simp; omega), b, off, rfl, by omega⟩
        obtain ⟨hsc, b, off, rfl, hbg⟩ := hsrc
        simp only [Option.getD_some] at hsc
        obtain ⟨x, hx⟩ : ∃ x, x = l.getD k 0 := ⟨_, rfl⟩
        rw [← hx] at hsc
        have HX : Hid (x = l.getD k 0) := hx
        have hsc2 : (wr.setCell ⟨g, k, none⟩ (.int .u8 0)).cell? ⟨b, off + k, none⟩ = some (.int .u8 x) := by
          rw [World.cell?_setCell_other _ _ _ _ (by simp only [ne_eq, Addr.mk.injEq, not_and]; intro h; exact absurd h.symm hbg)]; exact hsc
        clear hx
        go_wp2
        go_roundw
        case rel =>
          have hs2 := hs1.stored k (.int .u8 x)
          rw [mid_two .u8 0 l xs k (by rw [HXL.out]; exact hlt) 0 x (by rw [if_pos hkl]; exact HX.out)] at hs2
          exact ⟨k + 1, by omega, by go_num, hs2.1, grown_trans (grown_trans hgr hg1) hs2.2⟩
        case measure => simp [intOf]; omega
      · go_wp2
        go_roundw
        case rel =>
          rw [mid_one .u8 0 l xs k (by rw [HXL.out]; exact hlt) 0 (by rw [if_neg hkl])] at hs1
          exact ⟨k + 1, by omega, by go_num, hs1, grown_trans hgr hg1⟩
        case measure => simp [intOf]; omega
    · obtain rfl : k = n := by omega
      have he : midI 0 l xs k = fillI 0 l k := by unfold midI; rw [List.drop_of_length_le (by rw [HXL.out]; exact Nat.le_refl _), List.append_nil]
      rw [he] at hor
      go_wp2
      go_end0
      exact ⟨rfl, hor, hgr⟩
end Go.Proofs.Ytebpaolniemfgab
