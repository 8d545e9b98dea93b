/-
  The statements' acted: Done.
-/
import Derived.Test.YtcgfdhmegagjdaaActed
import Derived.Test.YtcgfdhmegagjdaaTotal
namespace Go.Proofs.Ytcgfdhmegagjdaa
open Go.RowKit

theorem same_eq' (a b : Option Addr) (n ca cb : Nat) (l : List Nat) (w : World) (hn : l.length = n) (hl : Seg .u8 w a (toI l)) (hm : Seg .u8 w b (toI l)) (hl2 : ∀ x ∈ l, x < 256) :
    Calls Try.prog 19 #[.slice a n ca, .slice b n cb] w fun e w' => e = .returned (.bool true) ∧ w = w' := by
  subst hn
  have := same_any a b ca cb l l w hl hm hl2 hl2
  rwa [decide_eq_true rfl] at this
theorem cells3 (w : World) (x : Value) (t : TypeId) : ∀ j u, [x, x, x][j]? = some u → (w.alloc (.cells #[x, x, x] t)).cell? ((⟨w.heap.size, 0, none⟩ : Addr).add j) = some u := by
  intro j u hj
  match j, hj with
  | 0, hj => simp at hj; subst hj; simp [go_sem, Addr.add]
  | 1, hj => simp at hj; subst hj; simp [go_sem, Addr.add]
  | 2, hj => simp at hj; subst hj; simp [go_sem, Addr.add]
  | j + 3, hj => simp at hj

set_option maxRecDepth 100000 in
set_option maxHeartbeats 800000 in
theorem acted_done (w : World) (B R : Nat) (v rv : Value) (mx : Nat) (l : List Nat) (obj at' n : Int) (x : Nat) (pa : Option Addr) (np cap : Nat) (h : Pair w B R v rv mx l) : ActsAs w B R v rv mx 5 obj at' n x pa np cap := by
  unfold ActsAs
  obtain ⟨i0, hi, hz0, hz1, hz2⟩ := info_parts Try.infoByte
  go_enter Try.func20, Try.ntmps20
  go_wp2_with fail
  obtain ⟨w0, hw0⟩ : ∃ w0, w0 = w.alloc (.cells #[.int .i64 5, .int .i64 obj, .int .i64 at', .int .i64 n, .int .u64 (x : Int), .slice pa np cap] 49) := ⟨_, rfl⟩
  have hbx : Below w.heap.size w w0 := by rw [hw0]; exact (Below.refl _ _).alloc (Nat.le_refl _) _
  rw [← hw0]
  have hP := h.below hbx
  clear hw0
  have hll : l.length ≤ 65535 := Nat.le_trans hP.hl hP.hmx
  refine (doneB_any B v mx l w0 hP.bld hll).mono ?_
  rintro e w1 ⟨g, rfl, ho1, hb1⟩
  have hP1 := hP.below hb1
  have c1 := hP1.ref.c1
  obtain ⟨a, c, hv⟩ := owns_shape hP1.ref.own
  rw [hv] at c1
  have hs1 : Seg .u8 w1 a (toI l) := by have := hP1.ref.own; rw [hv] at this; exact owns_seg_at this
  have HSM : Hid _ := same_eq' (some ⟨g, 0, none⟩) a l.length l.length c l w1 rfl (owns_seg_at ho1) hs1 hP.h256
  have hgl := ho1.lt g rfl
  obtain ⟨L, hL⟩ : ∃ L, L = l.length := ⟨_, rfl⟩
  rw [← hL] at c1 HSM ho1 hll ⊢
  have HV : Hid _ := hv
  have hb01 : Below w.heap.size w w1 := hbx.trans (hb1.mono hbx.size)
  clear hv hL hs1
  go_wp2_with fail
  refine Calls.mono HSM.out ?_
  rintro e w2 ⟨rfl, rfl⟩
  go_wp2
  go_loopw [26] (fun ix wr => ∃ (k : Nat) (xs : List Value), k ≤ L ∧ ix = .int .i64 k ∧ wr.ownsRow w0.heap.size 5 1 (.slice (some ⟨g, 0, none⟩) L L) L xs ∧ Below w0.heap.size w0 wr) (fun ix _ => L - (intOf ix).toNat)
  case atStart => exact ⟨0, _, Nat.zero_le _, rfl, ho1, hb1⟩
  case round =>
    obtain ⟨k, xs, hk, rfl, hown, hbel⟩ := hrel
    by_cases hlt : k < L
    · have hc : ∃ z, wr.cell? ⟨g, k, none⟩ = some z := by
        have hxl := hown.1
        have := hown.cellAt k (by omega)
        rw [List.getElem?_eq_getElem (by omega)] at this
        exact ⟨_, this⟩
      obtain ⟨z, hz⟩ := hc
      have hfz := hown.frozenAt k
      obtain ⟨hst, hgr⟩ := hown.stored k (.int .u8 98)
      have hbel2 : Below w0.heap.size w0 (wr.setCell ⟨g, k, none⟩ (.int .u8 98)) := hbel.grown hgr hbel.size (fun j hj => by simp at hj; omega)
      clear hgr
      go_wp2
      go_roundw
      case rel => exact ⟨k + 1, _, by omega, by go_num, hst, hbel2⟩
      case measure => simp [intOf]; omega
    · obtain rfl : k = L := by omega
      go_wp2_with (at_builtin; refine wpList_append_own _ rfl (.tmp 185) (.tmp 186) 22 rfl w0.heap.size 5 i0 (.int .u8 0) 1 1 Try.underlying22 hi hz0 hz1 hz2 rfl (by decide) _ _ _ rfl (hown.alloc _) ⟨wr.heap.size, 0, none⟩ 3 3 [.int .u8 97, .int .u8 97, .int .u8 97] rfl rfl (cells3 _ _ _) (by intro u hu; simp at hu; rcases hu with rfl | rfl | rfl <;> rfl) (by unfold maxLen; omega) (by omega) (by have := hbel.size; simp; omega) ?_)
      intro v2 w2 ho2 hg2 _
      have hbel2 : Below w0.heap.size w0 w2 := (hbel.alloc hbel.size _).grown hg2 (by have := hbel.size; simp; omega) (fun j hj => (hown.lt j hj).1)
      obtain ⟨a2, c2, rfl⟩ := owns_shape ho2
      clear ho2 hg2 hown
      go_wp2
      go_ret
      exact ⟨by simp, .pre hbx (.same hP hbel2)⟩
end Go.Proofs.Ytcgfdhmegagjdaa
