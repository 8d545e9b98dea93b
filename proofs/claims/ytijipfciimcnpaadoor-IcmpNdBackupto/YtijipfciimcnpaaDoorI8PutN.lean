/-
  PutND of no kind.
-/
import Derived.Test.YtijipfciimcnpaaDoorI8Put0
namespace Go.Proofs.YtijipfciimcnpaaDoor
open Go.RowKit
open I8 (M8)

set_option maxHeartbeats 6400000 in
set_option maxRecDepth 100000 in
theorem putND_none (k V : Int) (x : Nat → Nat) (r s o h : Bool) (m : Nat → Nat) (w : World) (hx : ∀ i, i < 16 → x i < 256) (hm : ∀ i, i < 6 → m i < 256) (hd : Dis8 w) (hs : Spe8 w) (hk : isK k = false) :
    Calls Tryd.prog 9 #[.agg (ndC k V x r s o h m)] w fun e w' => e = .returned (.tuple #[.agg (mC m8z none 0 0), .int .i64 1]) ∧ Below w.heap.size w w' := by
  have HKN : Hid (isK k = false) := hk
  clear hk
  obtain ⟨N, hN⟩ : ∃ N, N = (ndC k V x r s o h m) := ⟨_, rfl⟩
  have hn := ndAt_new w N
  have hr := mAt_new (w.alloc (.cells N 28)) m8z none 0 0
  rw [World.size_alloc] at hr
  have bel : Below w.heap.size w ((w.alloc (.cells N 28)).alloc (.cells (mC m8z none 0 0) 31)) := ((Below.refl _ _).alloc (Nat.le_refl _) _).alloc (by simp) _
  have hn2 := hn.below ((Below.refl _ _).alloc (Nat.le_refl _) (.cells (mC m8z none 0 0) 31))
  obtain ⟨W, hW⟩ : ∃ W, W = (w.alloc (.cells N 28)).alloc (.cells #[.int .i64 0, .int .i64 0, .int .i64 0, .int .i64 0, .slice none 0 0] 31) := ⟨_, rfl⟩
  have hW2 : W = (w.alloc (.cells N 28)).alloc (.cells (mC m8z none 0 0) 31) := hW
  rw [← hW2] at hr bel hn2
  obtain ⟨B, hB⟩ : ∃ B, B = w.heap.size := ⟨_, rfl⟩
  rw [← hB] at hr hn2
  have HB : Hid (w.heap.size = B) := hB.symm
  have HW : Hid ((w.alloc (.cells N 28)).alloc (.cells #[.int .i64 0, .int .i64 0, .int .i64 0, .int .i64 0, .slice none 0 0] 31) = W) := hW.symm
  have HR : Hid (MAt W (B + 1) m8z none 0 0) := hr
  have HND : Hid (NdAt W B (ndC k V x r s o h m)) := by rw [← hN]; exact hn2
  have HS : Hid (Spe8 W) := hs.old bel
  have k0 : W.cell? ⟨B, 0, none⟩ = some (.int .i64 k) := HND.out.cell 0
  have QD : Hid _ := disFor_any k W (hd.old bel)
  have HX : Hid (∀ i, i < 16 → x i < 256) := hx
  have HMB : Hid (∀ i, i < 6 → m i < 256) := hm
  rw [← hN]
  clear hd hn hr hn2 hW hW2 hB hN hs hx hm
  go_enter Tryd.func9, Tryd.ntmps9
  go_upto_region 1 with fail
  rw [HB.out, HW.out]
  go_wp2_with fail
  refine Calls.mono QD.out ?_
  rintro e w1 ⟨rfl, hb1⟩
  have ed : diOf k = #[.int .i64 0, .int .i64 0, .int .i64 0] := by
    have h' : ¬ (k = 1 ∨ k = 2) := by simpa [isK] using HKN.out
    unfold diOf; rw [if_neg (fun e => h' (.inl e)), if_neg (fun e => h' (.inr e))]; rfl
  have ek : isK k = false := HKN.out
  rw [ed, ek]
  obtain ⟨w2, hw2⟩ : ∃ w2, w2 = w1.alloc (.cells #[.int .i64 0, .int .i64 0, .int .i64 0] 85) := ⟨_, rfl⟩
  obtain ⟨D, hD⟩ : ∃ D, D = w1.heap.size := ⟨_, rfl⟩
  have hb2 : Below w1.heap.size w1 w2 := by rw [hw2]; exact (Below.refl _ _).alloc (Nat.le_refl _) _
  have HDI2 : Hid (DiAt w2 D 0 0 0) := by rw [hw2, hD]; exact diAt_new w1 0 0 0
  have HR2 : Hid (MAt w2 (B + 1) m8z none 0 0) := (HR.out.below hb1).below hb2
  have HND2 : Hid (NdAt w2 B (ndC k V x r s o h m)) := (HND.out.below hb1).below hb2
  have HS2 : Hid (Spe8 w2) := (HS.out.old hb1).old hb2
  have bel2 := bthen (bthen bel hb1) hb2
  have HW2 : Hid (w1.alloc (.cells #[.int .i64 0, .int .i64 0, .int .i64 0] 85) = w2) := hw2.symm
  have HDS : Hid (w1.heap.size = D) := hD.symm
  have HDB : Hid (B + 1 < D) := by rw [hD]; exact (HR.out.below hb1).lt
  clear hb1 QD HR HND k0 hb2 ed ek hw2 hD HS bel
  go_upto_region 2 with fail
  rw [HDS.out, HW2.out]
  obtain ⟨r1, hr1⟩ : ∃ r1 : Int, r1 = if r then 2147483648 else 0 := ⟨_, rfl⟩
  obtain ⟨s1, hs1⟩ : ∃ s1 : Int, s1 = if s then 1073741824 else 0 := ⟨_, rfl⟩
  obtain ⟨o1, ho1⟩ : ∃ o1 : Int, o1 = if o then 536870912 else 0 := ⟨_, rfl⟩
  have HRS : Hid (bits .or .i64 (bits .or .i64 r1 s1) o1 = rsB r s o) := by unfold rsB; rw [hr1, hs1, ho1]; rfl
  have QB1 : Hid (∀ A, Calls Tryd.prog 37 #[.bool r, .int .i64 2147483648] A fun e w' => e = .returned (.int .i64 r1) ∧ A = w') := fun A => by rw [hr1]; exact ndBit_any r 2147483648 A
  have QB2 : Hid (∀ A, Calls Tryd.prog 37 #[.bool s, .int .i64 1073741824] A fun e w' => e = .returned (.int .i64 s1) ∧ A = w') := fun A => by rw [hs1]; exact ndBit_any s 1073741824 A
  have QB3 : Hid (∀ A, Calls Tryd.prog 37 #[.bool o, .int .i64 536870912] A fun e w' => e = .returned (.int .i64 o1) ∧ A = w') := fun A => by rw [ho1]; exact ndBit_any o 536870912 A
  clear hr1 hs1 ho1
  refine MixH.start (fun A => Below w2.heap.size w2 A) (by kernel_rfl) ?_
  obtain ⟨wA, hwA⟩ : ∃ wA, wA = w2.drew := ⟨_, rfl⟩
  have hS : Below w2.heap.size w2 wA := by rw [hwA]; exact (Below.refl _ _).drew
  rw [← hwA]
  clear hwA
  refine MixH.takes [true, false, false, true, false, false, false, true] 9 (by kernel_rfl) (by kernel_rfl) (by decide) (by kernel_rfl) hS (fun K hK => ?_)
  simp only [Mix.pick]
  repeat (go_big_quiet_step (fail))
  refine wpQuiet_nil (hK _ ?_)
  clear hK K
  refine MixH.take 8 1 _ (.bool r) rfl (by kernel_rfl) (by kernel_rfl) (by kernel_rfl) (by kernel_rfl) (yields_bool (.tmp 15) rfl ⟨B, 18, none⟩ _ rfl rfl (fun A hA => (HND2.out.below hA).cell 18)) hS (fun a' ha => ?_)
  simp only [Act.put, List.setIfInBounds_toArray, List.set_cons_succ, List.set_cons_zero] at ha
  subst ha
  refine MixH.take 7 4 _ (.bool s) rfl (by kernel_rfl) (by kernel_rfl) (by kernel_rfl) (by kernel_rfl) (yields_bool (.tmp 18) rfl ⟨B, 19, none⟩ _ rfl rfl (fun A hA => (HND2.out.below hA).cell 19)) hS (fun a' ha => ?_)
  simp only [Act.put, List.setIfInBounds_toArray, List.set_cons_succ, List.set_cons_zero] at ha
  subst ha
  refine MixH.take 6 8 _ (.bool o) rfl (by kernel_rfl) (by kernel_rfl) (by kernel_rfl) (by kernel_rfl) (yields_bool (.tmp 22) rfl ⟨B, 20, none⟩ _ rfl rfl (fun A hA => (HND2.out.below hA).cell 20)) hS (fun a' ha => ?_)
  simp only [Act.put, List.setIfInBounds_toArray, List.set_cons_succ, List.set_cons_zero] at ha
  subst ha
  refine MixH.one [false, false, true] 5 2 _ rfl rfl (by kernel_rfl) (by kernel_rfl) (fun K hK => ?_)
  simp only [Mix.pick]
  go_wp2_with fail
  refine Calls.mono (QB1.out wA) ?_
  rintro e w4 ⟨rfl, rfl⟩
  go_wp2
  refine ⟨rfl, hK _ _ hS ?_⟩
  clear hK K
  refine MixH.one [false, false, false, false, false, true] 4 5 _ rfl rfl (by kernel_rfl) (by kernel_rfl) (fun K hK => ?_)
  simp only [Mix.pick]
  go_wp2_with fail
  refine Calls.mono (QB2.out wA) ?_
  rintro e w4 ⟨rfl, rfl⟩
  go_wp2
  refine ⟨rfl, hK _ _ hS ?_⟩
  clear hK K
  refine MixH.takes [false, false, false, false, false, false, true] 3 (by kernel_rfl) (by kernel_rfl) (by decide) (by kernel_rfl) hS (fun K hK => ?_)
  simp only [Mix.pick]
  repeat (go_big_quiet_step (fail))
  refine wpQuiet_nil (hK _ ?_)
  clear hK K
  refine MixH.one [false, false, false, false, false, false, false, false, false, true] 2 9 _ rfl rfl (by kernel_rfl) (by kernel_rfl) (fun K hK => ?_)
  simp only [Mix.pick]
  go_wp2_with fail
  refine Calls.mono (QB3.out wA) ?_
  rintro e w4 ⟨rfl, rfl⟩
  go_wp2
  refine ⟨rfl, hK _ _ hS ?_⟩
  clear hK K
  refine MixH.takes [false, false, false, false, false, false, false, false, false, false, true] 1 (by kernel_rfl) (by kernel_rfl) (by decide) (by kernel_rfl) hS (fun K hK => ?_)
  simp only [Mix.pick]
  repeat (go_big_quiet_step (fail))
  refine wpQuiet_nil (hK _ ?_)
  clear hK K
  refine MixH.takes [false, false, false, false, false, false, false, false, false, false, false, true] 0 (by kernel_rfl) (by kernel_rfl) (by decide) (by kernel_rfl) hS (fun K hK => ?_)
  simp only [Mix.pick]
  repeat (go_big_quiet_step (fail))
  refine wpQuiet_nil (hK _ ?_)
  clear hK K
  refine MixH.done (by kernel_rfl) ?_
  rw [HRS.out]
  have HR3 : Hid (MAt wA (B + 1) m8z none 0 0) := HR2.out.below hS
  have HN3 : Hid (NdAt wA B (ndC k V x r s o h m)) := HND2.out.below hS
  have HDI3 : Hid (DiAt wA D 0 0 0) := HDI2.out.below hS
  have HS3 : Hid (Spe8 wA) := HS2.out.old hS
  have bel3 := bthen bel2 hS
  have c0 : wA.cell? ⟨B, 0, none⟩ = some (.int .i64 k) := HN3.out.cell 0
  have c21 : wA.cell? ⟨B, 21, none⟩ = some (.bool h) := HN3.out.cell 21
  have HMAC : Hid (wA.rangeAt B 22 (macC m).toList) := HN3.out.rmc
  obtain ⟨rs, hrs⟩ : ∃ rs, rs = rsB r s o := ⟨_, rfl⟩
  rw [← hrs]
  have HRSE : Hid (rs = rsB r s o) := hrs
  clear hS HR2 HND2 HDI2 HS2 bel2 QB1 QB2 QB3 HRS hrs
  go_upto_region 4 with fail
  go_wp2_with (first | (refine wpList_build0 rfl rfl ?_) | (refine wpList_store_m8 (.tmp 2) (.tmp 48) rfl rfl (B + 1) m8z m8z none none 0 0 0 0 rfl rfl HR3.out rfl ?_))
  intro wE hRE kE
  have HRE : Hid (MAt wE (B + 1) m8z none 0 0) := hRE
  have HFE : Hid (Below w.heap.size w wE) := bel3.trans (kE.below (fun q e => by have e' : q = B + 1 := e; have := HB.out; omega) bel3.size)
  clear hRE kE
  go_wp2
  (try simp only [Exit.inBlock, Exit.then])
  refine bodyPost_ret (results_m8_tmp rfl _ _ (B + 1) m8z none 0 0 rfl HRE.out) rfl ?_
  exact ⟨rfl, HFE.out⟩
end Go.Proofs.YtijipfciimcnpaaDoor
