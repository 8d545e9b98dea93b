/-
  Layer 14: weirlaw14's same, of two lists with the same routes.
-/
import Derived.Test.YtdjbfhllialinaaDoorRtAp
namespace Go.Proofs.YtdjbfhllialinaaDoor
open Go.RowKit Go.Maps

set_option maxHeartbeats 3200000 in
set_option maxRecDepth 100000 in
theorem same_true (xs : List RV) (aa ba : Option Addr) (n ac bc : Nat) (w : World) (hn : xs.length = n) (hn2 : n ≤ 1048576) (ha : ListG 36 rcL ROk w aa xs) (hb : ListG 36 rcL ROk w ba xs) :
    Calls Tryd.prog 13 #[.slice aa n ac, .slice ba n bc] w fun e w' => e = .returned (.bool true) ∧ Below w.heap.size w w' := by
  have HA : Hid (ListG 36 rcL ROk w aa xs ∧ ListG 36 rcL ROk w ba xs) := ⟨ha, hb⟩
  have HN : Hid (xs.length = n) := hn
  clear ha hb hn
  go_enter Tryd.func13, Tryd.ntmps13
  go_wp2_with fail
  go_loopw [5] (fun ix wr => ∃ k : Nat, ix = .int .i64 k ∧ k ≤ n ∧ Hid (Below w.heap.size w wr)) (fun ix _ => n - (intOf ix).toNat)
  case atStart => exact ⟨0, rfl, Nat.zero_le _, Below.refl _ _⟩
  case round =>
    obtain ⟨k, rfl, hk, HW⟩ := hrel
    by_cases hlt : k < n
    · have k0 : (0 : Int) ≤ (k : Int) := by omega
      have k1 : (k : Int) < (n : Int) := by omega
      have k2 : ((k : Int)).toNat = k := by omega
      have wk : IntKind.i64.wrap ((k : Int) + 1) = (k : Int) + 1 := by rw [IntKind.wrap_i64]; omega
      obtain ⟨s, hs⟩ : ∃ s, xs[k]? = some s := ⟨_, List.getElem?_eq_getElem (by rw [HN.out]; exact hlt)⟩
      obtain ⟨g, o, rfl, hg, hr⟩ := listG_range HA.out.1 k s hs
      obtain ⟨g', o', rfl, hg', hr'⟩ := listG_range HA.out.2 k s hs
      have F1 : Hid (∀ A, Below w.heap.size w A → A.rangeAt g (o + k * 36) (rtC s).toList) := fun A hA => range_old hr hA hg
      have F2 : Hid (∀ A, Below w.heap.size w A → A.rangeAt g' (o' + k * 36) (rtC s).toList) := fun A hA => range_old hr' hA hg'
      have HEQ : Hid ((!(eqR s s)) = false) := by show (!(eqR s s)) = false; rw [eqR_refl]; rfl
      have HL : Hid (k < n) := hlt
      clear hs hg hg' hr hr' hlt hk
      go_wp2_with fail
      refine MixH.start (fun A => Below w.heap.size w A) (by kernel_rfl) ?_
      obtain ⟨wA, hwA⟩ : ∃ wA, wA = wr.drew := ⟨_, rfl⟩
      have hS : Below w.heap.size w wA := by rw [hwA]; exact HW.out.drew
      rw [← hwA]
      clear hwA
      refine MixH.takes [true, true, true, false, true, true, true] 3 (by kernel_rfl) (by kernel_rfl) (by decide) (by kernel_rfl) hS (fun K hK => ?_)
      simp only [Mix.pick]
      repeat (go_big_quiet_step (fail))
      refine wpQuiet_nil (hK _ ?_)
      clear hK K
      refine MixH.take 2 3 _ (.agg (rtC s)) rfl (by kernel_rfl) (by kernel_rfl) (by kernel_rfl) (by kernel_rfl) (yields_rte (.tmp 19) rfl g (o + k * 36) s rfl rfl (fun A hA => F1.out A hA)) hS (fun a' ha => ?_)
      simp only [Act.put, List.setIfInBounds_toArray, List.set_cons_succ, List.set_cons_zero] at ha
      subst ha
      refine MixH.take 1 7 _ (.agg (rtC s)) rfl (by kernel_rfl) (by kernel_rfl) (by kernel_rfl) (by kernel_rfl) (yields_rte (.tmp 23) rfl g' (o' + k * 36) s rfl rfl (fun A hA => F2.out A hA)) hS (fun a' ha => ?_)
      simp only [Act.put, List.setIfInBounds_toArray, List.set_cons_succ, List.set_cons_zero] at ha
      subst ha
      refine MixH.one [false, false, false, false, false, false, false, false, true] 0 8 _ rfl rfl (by kernel_rfl) (by kernel_rfl) (fun K hK => ?_)
      simp only [Mix.pick]
      refine wpList_neq_rt (.tmp 20) (.tmp 24) rfl s s rfl rfl false HEQ.out rfl ?_
      go_wp2_with fail
      refine ⟨rfl, hK _ _ hS ?_⟩
      clear hK K
      refine MixH.done (by kernel_rfl) ?_
      have HA1 : Hid (Below w.heap.size w wA) := hS
      clear hS
      go_wp2_with fail
      go_roundw
      case rel => exact ⟨k + 1, by simp, by have := HL.out; omega, HA1⟩
      case measure => have := HL.out; simp [intOf]; omega
    · have k1 : ¬ (k : Int) < (n : Int) := by omega
      clear hlt
      go_wp2_with fail
      go_ret
      exact ⟨rfl, HW.out⟩
end Go.Proofs.YtdjbfhllialinaaDoor
