/-
  The statements' roomy and roomyInts: what was handed in, with marks behind it, in new memory.
-/
import Derived.Test.YtcgfdhmegagjdaaOwn
namespace Go.Proofs.Ytcgfdhmegagjdaa
open Go.RowKit

def marks (n : Nat) : List Nat := (List.range n).map (fun i => 201 + i % 5)
def marksI (n : Nat) : List Int := (List.range n).map (fun i : Nat => -201 - (i : Int))
theorem marks_succ (n : Nat) : marks (n + 1) = marks n ++ [201 + n % 5] := by simp [marks, List.range_succ]
theorem marksI_succ (n : Nat) : marksI (n + 1) = marksI n ++ [-201 - (n : Int)] := by simp [marksI, List.range_succ]
theorem marks_len (n : Nat) : (marks n).length = n := by simp [marks]
theorem marksI_len (n : Nat) : (marksI n).length = n := by simp [marksI]
theorem marks_lt (n : Nat) : ∀ x ∈ marks n, x < 256 := by
  intro x hx
  simp only [marks, List.mem_map, List.mem_range] at hx
  obtain ⟨i, _, rfl⟩ := hx
  omega

set_option maxHeartbeats 400000 in
set_option maxRecDepth 100000 in
theorem roomy_any (a : Option Addr) (len ca : Nat) (l : List Nat) (w : World) (hll : l.length = len) (hl : Seg .u8 w a (toI l)) (hsum : len + 75 ≤ 140737488355328) :
    Calls Try.prog 27 #[.slice a len ca] w fun e w' => ∃ v, e = .returned v ∧
      w'.ownsRow w.heap.size 5 1 v (len + 75) ((toI (l ++ marks 75)).map (Value.int .u8)) ∧ Below w.heap.size w w' := by
  subst hll
  obtain ⟨i0, hi, hz0, hz1, hz2⟩ := info_parts Try.infoByte
  have H1 : Hid ((toI l).length = l.length) := toI_len l
  go_enter Try.func27, Try.ntmps27
  go_wp2_with (at_builtin; refine wpList_append_seg rfl (.tmp 5) (.tmp 6) 22 rfl w.heap.size 5 i0 (.int .u8 0) 1 Try.underlying22 hi hz0 hz1 hz2 rfl (.slice none 0 0) 0 [] rfl (World.ownsRow_nil _ _ _ _) .u8 a l.length ca (toI l) rfl H1.out hl (by unfold maxLen; omega) (by omega) (Nat.le_refl _) ?_)
  intro v1 w1 ho1 hg1
  have hb1 : Below w.heap.size w w1 := (Below.refl _ _).grown hg1 (Nat.le_refl _) (by intro k hk; simp [Value.ownBlock] at hk)
  clear hg1
  go_wp2
  go_loopw [3, 4] (fun v ix wr => ∃ k : Nat, k ≤ 75 ∧ ix = .int .i64 k ∧ wr.ownsRow w.heap.size 5 1 v (l.length + k) ((toI (l ++ marks k)).map (Value.int .u8)) ∧ Below w.heap.size w wr) (fun _ ix _ => 75 - (intOf ix).toNat)
  case atStart => exact ⟨0, by omega, rfl, by simpa [marks] using ho1, hb1⟩
  case round =>
    obtain ⟨k, hk, rfl, hown, hbel⟩ := hrel
    by_cases hlt : k < 75
    · have hst : (toI (l ++ marks (k + 1))).map (Value.int .u8) = (toI (l ++ marks k)).map (Value.int .u8) ++ [.int .u8 (201 + (k : Int) % 5)] := by
        rw [marks_succ]
        simp [toI]
      have HS : Hid _ := hst
      clear hst ho1 hb1
      go_wp2_with (first | (at_builtin; refine wpList_append_own _ rfl (.tmp 12) (.tmp 17) 22 rfl w.heap.size 5 i0 (.int .u8 0) 1 1 Try.underlying22 hi hz0 hz1 hz2 rfl (by decide) _ _ _ rfl (hown.alloc _) ⟨wr.heap.size, 0, none⟩ 1 1 [.int .u8 (201 + (k : Int) % 5)] rfl rfl ?c1 ?c2 ?c3 ?c4 ?c5 ?_))
      case c1 => exact cell_one_new _ _ _
      case c2 => intro u hu; simp at hu; subst hu; rfl
      case c3 => unfold maxLen; omega
      case c4 => omega
      case c5 => have := hbel.size; simp; omega
      intro v' w1 hown1 hgrow1 _
      have hbel1 : Below w.heap.size w w1 := (hbel.alloc hbel.size _).grown hgrow1 (by have := hbel.size; simp; omega) (fun j hj => (hown.lt j hj).1)
      rw [← HS.out] at hown1
      clear hgrow1 hown hbel
      go_wp2
      go_roundw
      case rel => exact ⟨k + 1, by omega, by go_num, hown1, hbel1⟩
      case measure => simp [intOf]; omega
    · obtain rfl : k = 75 := by omega
      go_wp2
      go_ret
      exact ⟨_, rfl, hown, hbel⟩
end Go.Proofs.Ytcgfdhmegagjdaa
