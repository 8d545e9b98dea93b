/-
  NeighPlays: the walk.
-/
import Derived.Test.YtialefdojeddjaaNrKz
namespace Go.Proofs.Ytialefdojeddjaa
open Go.RowKit Go.Maps

set_option maxHeartbeats 3200000 in
set_option maxRecDepth 100000 in
theorem neighPlays.walk (w : World) (c : CF) (a : Option Addr) (len cap : Nat) (ops : List OV) (hl : ops.length = len) (hs : ListG 27 ocL OpOk w a ops) (hn : len ≤ 1048576) : Calls Try.prog 12 #[.agg (cfC c), .slice a len cap] w fun e w' => e = .returned (.bool true) ∧ Below w.heap.size w w' := by
  have HS : Hid (ListG 27 ocL OpOk w a ops ∧ ops.length = len ∧ len ≤ 1048576) := ⟨hs, hl, hn⟩
  clear hs hl hn
  have hb := cfg_new w c
  have bel : Below w.heap.size w (w.alloc (.cells (cfC c) 23)) := (Below.refl _ _).alloc (Nat.le_refl _) _
  obtain ⟨CX, hC⟩ : ∃ C, C = cfC c := ⟨_, rfl⟩
  obtain ⟨W, hW⟩ : ∃ W, W = w.alloc (.cells (cfC c) 23) := ⟨_, rfl⟩
  rw [← hW] at hb bel
  obtain ⟨B, hB⟩ : ∃ B, B = w.heap.size := ⟨_, rfl⟩
  rw [← hB] at hb
  have HBX : Hid (CfgAt W B c ∧ Below w.heap.size w W) := ⟨hb, bel⟩
  rw [← hC] at hW ⊢
  have HOX : Hid (w.heap.size = B) := hB.symm
  have HWX : Hid (w.alloc (.cells CX 23) = W) := hW.symm
  clear hb hW hB hC bel
  have QP : Hid _ := plays_any W c a len cap ops 4 6 HS.out.2.1 (ListG.old HS.out.1 HBX.out.2) HS.out.2.2
  go_enter Try.func12, Try.ntmps12
  go_upto_region 1 with fail
  rw [HOX.out, HWX.out]
  go_wp2_with (first | (refine wpList_load_cfg (.tmp 2) rfl B c rfl HBX.out.1 rfl ?_))
  refine Calls.mono QP.out ?_
  rintro r w1 ⟨rfl, b1⟩
  have HE : Hid (Below w.heap.size w w1) := bthen HBX.out.2 b1
  clear b1 QP HBX
  go_wp2_with fail
  go_ret
  exact ⟨rfl, HE.out⟩
end Go.Proofs.Ytialefdojeddjaa
