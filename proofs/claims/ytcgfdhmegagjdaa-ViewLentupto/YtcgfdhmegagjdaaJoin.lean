/-
  The statements' join: byte strings behind one another, in new memory.
-/
import Derived.Test.YtcgfdhmegagjdaaOwn
namespace Go.Proofs.Ytcgfdhmegagjdaa
open Go.RowKit

set_option maxHeartbeats 400000 in
set_option maxRecDepth 100000 in
theorem join_any (a b c : Option Addr) (ca cb cc : Nat) (l m n : List Nat) (w : World) (hl : Seg .u8 w a (toI l)) (hm : Seg .u8 w b (toI m)) (hn : Seg .u8 w c (toI n)) (hsum : l.length + m.length + n.length ≤ 140737488355328) :
    Calls Try.prog 14 #[.slice a l.length ca, .slice b m.length cb, .slice c n.length cc] w fun e w' => ∃ v, e = .returned v ∧
      w'.ownsRow w.heap.size 5 1 v (l.length + m.length + n.length) ((toI (l ++ m ++ n)).map (Value.int .u8)) ∧ Below w.heap.size w w' := by
  obtain ⟨i0, hi, hz0, hz1, hz2⟩ := info_parts Try.infoByte
  have hl0 := toI_len l
  have hm0 := toI_len m
  have hn0 := toI_len n
  have H1 : Hid ((toI l).length = l.length) := hl0
  have H2 : Hid ((toI m).length = m.length) := hm0
  have H3 : Hid ((toI n).length = n.length) := hn0
  clear hl0 hm0 hn0
  go_enter Try.func14, Try.ntmps14
  go_wp2_with (at_builtin; refine wpList_append_seg rfl (.tmp 8) (.tmp 9) 22 rfl w.heap.size 5 i0 (.int .u8 0) 1 Try.underlying22 hi hz0 hz1 hz2 rfl (.slice none 0 0) 0 [] rfl (World.ownsRow_nil _ _ _ _) .u8 a l.length ca (toI l) rfl H1.out hl (by unfold maxLen; omega) (by omega) (Nat.le_refl _) ?_)
  intro v1 w1 ho1 hg1
  have hb1 : Below w.heap.size w w1 := (Below.refl _ _).grown hg1 (Nat.le_refl _) (by intro k hk; simp [Value.ownBlock] at hk)
  clear hg1
  go_wp2_with (at_builtin; refine wpList_append_seg rfl (.tmp 11) (.tmp 12) 22 rfl w.heap.size 5 i0 (.int .u8 0) 1 Try.underlying22 hi hz0 hz1 hz2 rfl v1 _ _ rfl ho1 .u8 b m.length cb (toI m) rfl H2.out (hm.old hb1) (by unfold maxLen; omega) (by omega) hb1.size ?_)
  intro v2 w2 ho2 hg2
  have hb2 : Below w.heap.size w w2 := hb1.grown hg2 hb1.size (fun j hj => (ho1.lt j hj).1)
  clear hg2 ho1
  go_wp2_with (at_builtin; refine wpList_append_seg rfl (.tmp 14) (.tmp 15) 22 rfl w.heap.size 5 i0 (.int .u8 0) 1 Try.underlying22 hi hz0 hz1 hz2 rfl v2 _ _ rfl ho2 .u8 c n.length cc (toI n) rfl H3.out (hn.old hb2) (by unfold maxLen; omega) (by omega) hb2.size ?_)
  intro v3 w3 ho3 hg3
  have hb3 : Below w.heap.size w w3 := hb2.grown hg3 hb2.size (fun j hj => (ho2.lt j hj).1)
  clear hg3 ho2
  go_wp2
  go_ret
  refine ⟨v3, rfl, ?_, hb3⟩
  simpa [toI] using ho3
end Go.Proofs.Ytcgfdhmegagjdaa
