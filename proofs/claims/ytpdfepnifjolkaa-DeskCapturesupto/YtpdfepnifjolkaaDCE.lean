/-
  Layer 20, captures: the harness' apart and numbered.
-/
import Derived.Test.YtpdfepnifjolkaaDCD
namespace Go.Proofs.Ytpdfepnifjolkaa
open Go.RowKit Go.ChangeShapes Go.WideShapes

/-- the mark of a byte of a row -/
def mkb (k j : Nat) : Nat := if j % 2 = 0 then k % 256 else k / 256 % 256
/-- the first k rows bear their marks, and of the k-th one the first j bytes -/
def Mb (R : List RO) (k j : Nat) : Prop := ∀ (t : Nat) (r : RO), R[t]? = some r → (t < k → ∀ i, i < r.d.length → r.d.getD i 0 = mkb t i) ∧ (t = k → ∀ i, i < j → i < r.d.length → r.d.getD i 0 = mkb t i)
theorem Mb.byte {R : List RO} {k j : Nat} (h : Mb R k j) {r : RO} (hr : R[k]? = some r) : Mb (R.set k (r.wd (r.d.set j (mkb k j)))) k (j + 1) := by
  intro t c hc
  have hk := (List.getElem?_eq_some_iff.1 hr).1
  rw [List.getElem?_set] at hc
  by_cases ht : k = t
  · rw [if_pos ht, if_pos hk, Option.some.injEq] at hc
    subst hc
    subst ht
    refine ⟨fun q => by omega, fun _ i hi hl => ?_⟩
    simp only [RO.wd, List.length_set] at hl ⊢
    by_cases hij : j = i
    · subst hij; simp [List.getD, hl]
    · have h1 := (h k r hr).2 rfl i (by omega) hl
      simp only [List.getD, List.getElem?_set, if_neg hij] at h1 ⊢
      exact h1
  · rw [if_neg ht] at hc
    exact ⟨(h t c hc).1, fun q => absurd q.symm ht⟩
theorem Mb.next {R : List RO} {k j : Nat} (h : Mb R k j) {r : RO} (hr : R[k]? = some r) (hj : ¬ j < r.d.length) : Mb R (k + 1) 0 := by
  intro t c hc
  refine ⟨fun q i hi => ?_, fun _ i hi => by omega⟩
  by_cases ht : t = k
  · subst ht
    rw [hr, Option.some.injEq] at hc
    subst hc
    exact (h t r hr).2 rfl i (by omega) hi
  · exact (h t c hc).1 (by omega) i hi
def Lb (R : List RO) : Prop := ∀ (t : Nat) (r : RO), R[t]? = some r → r.d.length ≤ 140000000000
theorem Lb.set {R : List RO} (h : Lb R) {k j x : Nat} {r : RO} (hr : R[k]? = some r) : Lb (R.set k (r.wd (r.d.set j x))) := by
  intro t c hc
  rcases List.mem_or_eq_of_mem_set (List.mem_of_getElem? hc) with hm | rfl
  · obtain ⟨i, hi⟩ := List.getElem?_of_mem hm
    exact h i c hi
  · simp only [RO.wd, List.length_set]
    exact h k r hr
set_option maxHeartbeats 3200000 in
set_option maxRecDepth 100000 in
theorem apart_any (w : World) (base : Nat) (va : Option Addr) (n vc : Nat) (R : List RO) (h : Rs w base (.slice va n vc) R) (hn : R.length = n) (hl : Lb R) (hn2 : n ≤ 100000000) (hbs : base ≤ w.heap.size) : Calls Try.prog 13 #[.slice va n vc] w fun e w' => e = .returned (.bool true) ∧ Below base w w' ∧ K8 w w' := by
  have HS : Hid (Rs w base (.slice va n vc) R ∧ R.length = n ∧ Lb R) := ⟨h, hn, hl⟩
  clear h hn hl
  go_enter Try.func13, Try.ntmps13
  go_wp2_with fail
  go_loopw [3] (fun ix wr => ∃ (k : Nat) (R : List RO), ix = .int .i64 (k : Nat) ∧ k ≤ n ∧ Hid (Rs wr base (.slice va n vc) R ∧ Below base w wr ∧ K8 w wr ∧ Mb R k 0 ∧ R.length = n ∧ Lb R)) (fun ix _ => n - (intOf ix).toNat)
  case atStart => exact ⟨0, R, rfl, Nat.zero_le _, HS.out.1, Below.refl _ _, K8.refl _, fun t r hr => ⟨fun q => by omega, fun _ i hi => by omega⟩, HS.out.2.1, HS.out.2.2⟩
  case round =>
    clear HS
    obtain ⟨k, R, rfl, hk, HI⟩ := hrel
    by_cases hin : k < n
    · have p1 : decide ((k : Int) < (n : Int)) = true := decide_eq_true (by omega)
      have p2 : decide (k < n) = true := decide_eq_true hin
      have i0 : (0 : Int) ≤ (k : Int) := by omega
      have i1 : (k : Int) < (n : Int) := by omega
      have i2 : ((k : Int)).toNat = k := by omega
      have wk1 : IntKind.i64.wrap ((k : Int) + 1) = (k : Int) + 1 := i64_s _ (by omega) (by omega)
      obtain ⟨r0, hr0⟩ : ∃ r, R[k]? = some r := ⟨_, List.getElem?_eq_getElem (by rw [HI.out.2.2.2.2.1]; exact hin)⟩
      obtain ⟨g, cap, hv, _, _, _, _⟩ := HI.out.1.at hr0
      simp only [Value.slice.injEq] at hv
      obtain ⟨rfl, hnE_, hcE_⟩ := hv
      clear hnE_ hcE_
      obtain ⟨m, hm⟩ : ∃ m, r0.d.length = m := ⟨_, rfl⟩
      have hmb : m ≤ 140000000000 := by rw [← hm]; exact HI.out.2.2.2.2.2 k r0 hr0
      have HEL : Hid (R[k]? = some r0 ∧ r0.d.length = m) := ⟨hr0, hm⟩
      clear hr0 hm
      go_wp2_with fail
      go_loopw [4] (fun jx wr => ∃ (j : Nat) (R : List RO) (r : RO), jx = .int .i64 (j : Nat) ∧ j ≤ m ∧ Hid (Rs wr base (.slice (some ⟨g, 0, none⟩) n vc) R ∧ Below base w wr ∧ K8 w wr ∧ Mb R k j ∧ (R.length = n ∧ Lb R) ∧ R[k]? = some r ∧ r.d.length = m)) (fun jx _ => m - (intOf jx).toNat)
      case atStart => exact ⟨0, R, r0, rfl, Nat.zero_le _, HI.out.1, HI.out.2.1, HI.out.2.2.1, HI.out.2.2.2.1, HI.out.2.2.2.2, HEL.out.1, HEL.out.2⟩
      case round =>
        clear HI HEL
        obtain ⟨j, R, r, rfl, hjm, HJ⟩ := hrel
        obtain ⟨g', cap', hv, hg1, hg2, hgc, hgu⟩ := HJ.out.1.at HJ.out.2.2.2.2.2.1
        simp only [Value.slice.injEq, Option.some.injEq, Addr.mk.injEq, and_true] at hv
        obtain ⟨rfl, hnE_, hcE_⟩ := hv
        clear hnE_ hcE_
        have c3 : wr.cell? ⟨g, k, none⟩ = some (.slice r.a m r.cap) := by rw [hgc, ← HJ.out.2.2.2.2.2.2]; rfl
        clear hgc
        by_cases hj : j < m
        · have r1 : decide ((j : Int) < (m : Int)) = true := decide_eq_true (by omega)
          have r2 : decide (j < m) = true := decide_eq_true hj
          have r3 : IntKind.i64.wrap ((j : Int) + 1) = (j : Int) + 1 := i64_s _ (by omega) (by omega)
          have r4 : (0 : Int) ≤ (j : Int) := by omega
          have r5 : (j : Int) < (m : Int) := by omega
          have r6 : ((j : Int)).toNat = j := by omega
          obtain ⟨b, hb, _, _, _, _, _⟩ := HJ.out.1.byte HJ.out.2.2.2.2.2.1 (j := j) (by rw [HJ.out.2.2.2.2.2.2]; exact hj)
          have HG : Hid (g < wr.heap.size ∧ r.a = some ⟨b, 0, none⟩ ∧ True) := ⟨hg2, hb, trivial⟩
          rw [hb] at c3
          obtain ⟨rc, hrc⟩ : ∃ x, r.cap = x := ⟨_, rfl⟩
          rw [hrc] at c3
          clear hb hg1 hg2 hgu hrc
          go_upto_region 7 with fail
          by_cases hpar : j % 2 = 0
          · have a1 : bits .and .i64 (j : Int) 1 = 0 := by rw [and_1]; omega
            have a2 : mkb k j = k % 256 := by unfold mkb; rw [if_pos hpar]
            obtain ⟨y, hy⟩ : ∃ y, y = mkb k j := ⟨_, rfl⟩
            have a3 : (k : Int) % 256 = (y : Int) := by rw [hy, a2]; omega
            have a4 : IntKind.u8.wrap (k : Int) = (y : Int) := by rw [← a3, IntKind.wrap_u8]
            have HYY : Hid (y = mkb k j) := hy
            clear hy a2 hpar
            refine MixH.start (fun A => (A).cell? ⟨g, k, none⟩ = some (.slice (some ⟨b, 0, none⟩) m rc)) (by kernel_rfl) ?_
            obtain ⟨wA, hwA⟩ : ∃ W_, W_ = wr.drew := ⟨_, rfl⟩
            have bdr : Below wr.heap.size wr wA := by rw [hwA]; exact (Below.refl _ _).drew
            have hS : wA.cell? ⟨g, k, none⟩ = some (.slice (some ⟨b, 0, none⟩) m rc) := (bdr.cell (p := ⟨g, k, none⟩) HG.out.1).trans c3
            have HA : Hid (Rs wA base (.slice (some ⟨g, 0, none⟩) n vc) R ∧ Below wr.heap.size wr wA) := ⟨HJ.out.1.below bdr, bdr⟩
            rw [← hwA]
            clear hwA bdr
            obtain ⟨b', hb', hbb, hub, hcb, hfb, hbx⟩ := HA.out.1.byte HJ.out.2.2.2.2.2.1 (j := j) (by rw [HJ.out.2.2.2.2.2.2]; exact hj)
            rw [HG.out.2.1] at hb'
            simp only [Option.some.injEq, Addr.mk.injEq, and_true] at hb'
            subst hb'
            have HP : Hid (Rs (wA.setCell ⟨b, j, none⟩ (.int .u8 (y : Int))) base (.slice (some ⟨g, 0, none⟩) n vc) (R.set k (r.wd (r.d.set j y))) ∧ Below base w (wA.setCell ⟨b, j, none⟩ (.int .u8 (y : Int))) ∧ K8 w (wA.setCell ⟨b, j, none⟩ (.int .u8 (y : Int))) ∧ g ≠ b) := by
              have kc : Ch (fun q => q = b) wA (wA.setCell ⟨b, j, none⟩ (.int .u8 (y : Int))) := (Ch.refl (fun q => q = b) wA).set ⟨b, j, none⟩ _ rfl
              have h1 := HJ.out.2.1.trans (HA.out.2.mono (Nat.le_trans hbs HJ.out.2.1.size))
              refine ⟨hbx y, h1.trans (kc.below (fun q hq => by omega) (Nat.le_trans hbs h1.size)), (HJ.out.2.2.1.trans (K8.below HA.out.2)).trans (K8.of kc (fun q _ e => by rw [e]; exact hub)), fun e => ?_⟩
              obtain ⟨q, fr, hq⟩ := hub
              obtain ⟨_, _, z, hz⟩ := HA.out.1.l.kind g rfl
              rw [e, hq] at hz
              simp at hz
            clear hbx hbb hub HA
            refine MixH.takes [true, true, true, false, true, true, true, true, true, true, true] 3 (by kernel_rfl) (by kernel_rfl) (by decide) (by kernel_rfl) hS (fun K hK => ?_)
            simp only [Mix.pick]
            repeat (go_big_quiet_step (fail))
            refine wpQuiet_nil (hK _ ?_)
            clear hK K
            refine MixH.take 2 3 _ (.slice (some ⟨b, 0, none⟩) m rc) rfl (by kernel_rfl) (by kernel_rfl) (by kernel_rfl) (by kernel_rfl) (yields_row (.tmp 27) rfl ⟨g, k, none⟩ (.slice (some ⟨b, 0, none⟩) m rc) rfl rfl (fun A hA => hA)) hS (fun a' ha => ?_)
            simp only [Act.put, List.setIfInBounds_toArray, List.set_cons_succ, List.set_cons_zero] at ha
            subst ha
            refine MixH.takes [false, false, false, false, false, false, false, false, false, false, false, true] 1 (by kernel_rfl) (by kernel_rfl) (by decide) (by kernel_rfl) hS (fun K hK => ?_)
            simp only [Mix.pick]
            repeat (go_big_quiet_step (fail))
            refine wpQuiet_nil (hK _ ?_)
            clear hK K
            refine MixH.one [false, false, false, false, false, false, false, false, false, false, false, false, true] 0 12 _ rfl rfl (by kernel_rfl) (by kernel_rfl) (fun K hK => ?_)
            simp only [Mix.pick]
            go_wp2_with fail
            have hS2 : (wA.setCell ⟨b, j, none⟩ (.int .u8 (y : Int))).cell? ⟨g, k, none⟩ = some (.slice (some ⟨b, 0, none⟩) m rc) := by
              have kc : Ch (fun q => q = b) wA (wA.setCell ⟨b, j, none⟩ (.int .u8 (y : Int))) := (Ch.refl (fun q => q = b) wA).set ⟨b, j, none⟩ _ rfl
              exact kc.cell (p := ⟨g, k, none⟩) hS (fun e => HP.out.2.2.2 e)
            clear hS
            have hS := hS2
            clear hS2
            refine ⟨rfl, hK _ _ hS ?_⟩
            clear hK K
            refine MixH.done (by kernel_rfl) ?_
            clear hS hcb hfb
            go_wp2
            go_roundw
            case rel =>
              refine ⟨j + 1, R.set k (r.wd (r.d.set j y)), r.wd (r.d.set j y), by go_num, by omega, HP.out.1, HP.out.2.1, HP.out.2.2.1, by rw [HYY.out]; exact HJ.out.2.2.2.1.byte HJ.out.2.2.2.2.2.1, ⟨by rw [List.length_set]; exact HJ.out.2.2.2.2.1.1, HJ.out.2.2.2.2.1.2.set HJ.out.2.2.2.2.2.1⟩, by rw [List.getElem?_set, if_pos rfl, if_pos (by rw [HJ.out.2.2.2.2.1.1]; exact hin)], ?_⟩
              show (r.d.set j y).length = m
              rw [List.length_set]; exact HJ.out.2.2.2.2.2.2
            case measure => simp [intOf]; omega
          · have a1 : bits .and .i64 (j : Int) 1 = 1 := by rw [and_1]; omega
            have a2 : mkb k j = k / 256 % 256 := by unfold mkb; rw [if_neg hpar]
            obtain ⟨y, hy⟩ : ∃ y, y = mkb k j := ⟨_, rfl⟩
            have a3 : (k : Int) / 256 % 256 = (y : Int) := by rw [hy, a2]; omega
            have a4 : IntKind.u8.wrap ((k : Int) / 256) = (y : Int) := by rw [← a3, IntKind.wrap_u8]
            have HYY : Hid (y = mkb k j) := hy
            clear hy a2 hpar
            refine MixH.start (fun A => (A).cell? ⟨g, k, none⟩ = some (.slice (some ⟨b, 0, none⟩) m rc)) (by kernel_rfl) ?_
            obtain ⟨wA, hwA⟩ : ∃ W_, W_ = wr.drew := ⟨_, rfl⟩
            have bdr : Below wr.heap.size wr wA := by rw [hwA]; exact (Below.refl _ _).drew
            have hS : wA.cell? ⟨g, k, none⟩ = some (.slice (some ⟨b, 0, none⟩) m rc) := (bdr.cell (p := ⟨g, k, none⟩) HG.out.1).trans c3
            have HA : Hid (Rs wA base (.slice (some ⟨g, 0, none⟩) n vc) R ∧ Below wr.heap.size wr wA) := ⟨HJ.out.1.below bdr, bdr⟩
            rw [← hwA]
            clear hwA bdr
            obtain ⟨b', hb', hbb, hub, hcb, hfb, hbx⟩ := HA.out.1.byte HJ.out.2.2.2.2.2.1 (j := j) (by rw [HJ.out.2.2.2.2.2.2]; exact hj)
            rw [HG.out.2.1] at hb'
            simp only [Option.some.injEq, Addr.mk.injEq, and_true] at hb'
            subst hb'
            have HP : Hid (Rs (wA.setCell ⟨b, j, none⟩ (.int .u8 (y : Int))) base (.slice (some ⟨g, 0, none⟩) n vc) (R.set k (r.wd (r.d.set j y))) ∧ Below base w (wA.setCell ⟨b, j, none⟩ (.int .u8 (y : Int))) ∧ K8 w (wA.setCell ⟨b, j, none⟩ (.int .u8 (y : Int))) ∧ g ≠ b) := by
              have kc : Ch (fun q => q = b) wA (wA.setCell ⟨b, j, none⟩ (.int .u8 (y : Int))) := (Ch.refl (fun q => q = b) wA).set ⟨b, j, none⟩ _ rfl
              have h1 := HJ.out.2.1.trans (HA.out.2.mono (Nat.le_trans hbs HJ.out.2.1.size))
              refine ⟨hbx y, h1.trans (kc.below (fun q hq => by omega) (Nat.le_trans hbs h1.size)), (HJ.out.2.2.1.trans (K8.below HA.out.2)).trans (K8.of kc (fun q _ e => by rw [e]; exact hub)), fun e => ?_⟩
              obtain ⟨q, fr, hq⟩ := hub
              obtain ⟨_, _, z, hz⟩ := HA.out.1.l.kind g rfl
              rw [e, hq] at hz
              simp at hz
            clear hbx hbb hub HA
            refine MixH.takes [true, true, true, false, true, true, true, true, true, true, true] 3 (by kernel_rfl) (by kernel_rfl) (by decide) (by kernel_rfl) hS (fun K hK => ?_)
            simp only [Mix.pick]
            repeat (go_big_quiet_step (fail))
            refine wpQuiet_nil (hK _ ?_)
            clear hK K
            refine MixH.take 2 3 _ (.slice (some ⟨b, 0, none⟩) m rc) rfl (by kernel_rfl) (by kernel_rfl) (by kernel_rfl) (by kernel_rfl) (yields_row (.tmp 27) rfl ⟨g, k, none⟩ (.slice (some ⟨b, 0, none⟩) m rc) rfl rfl (fun A hA => hA)) hS (fun a' ha => ?_)
            simp only [Act.put, List.setIfInBounds_toArray, List.set_cons_succ, List.set_cons_zero] at ha
            subst ha
            refine MixH.takes [false, false, false, false, false, false, false, false, false, false, false, true] 1 (by kernel_rfl) (by kernel_rfl) (by decide) (by kernel_rfl) hS (fun K hK => ?_)
            simp only [Mix.pick]
            repeat (go_big_quiet_step (fail))
            refine wpQuiet_nil (hK _ ?_)
            clear hK K
            refine MixH.one [false, false, false, false, false, false, false, false, false, false, false, false, true] 0 12 _ rfl rfl (by kernel_rfl) (by kernel_rfl) (fun K hK => ?_)
            simp only [Mix.pick]
            go_wp2_with fail
            have hS2 : (wA.setCell ⟨b, j, none⟩ (.int .u8 (y : Int))).cell? ⟨g, k, none⟩ = some (.slice (some ⟨b, 0, none⟩) m rc) := by
              have kc : Ch (fun q => q = b) wA (wA.setCell ⟨b, j, none⟩ (.int .u8 (y : Int))) := (Ch.refl (fun q => q = b) wA).set ⟨b, j, none⟩ _ rfl
              exact kc.cell (p := ⟨g, k, none⟩) hS (fun e => HP.out.2.2.2 e)
            clear hS
            have hS := hS2
            clear hS2
            refine ⟨rfl, hK _ _ hS ?_⟩
            clear hK K
            refine MixH.done (by kernel_rfl) ?_
            clear hS hcb hfb
            go_wp2
            go_roundw
            case rel =>
              refine ⟨j + 1, R.set k (r.wd (r.d.set j y)), r.wd (r.d.set j y), by go_num, by omega, HP.out.1, HP.out.2.1, HP.out.2.2.1, by rw [HYY.out]; exact HJ.out.2.2.2.1.byte HJ.out.2.2.2.2.2.1, ⟨by rw [List.length_set]; exact HJ.out.2.2.2.2.1.1, HJ.out.2.2.2.2.1.2.set HJ.out.2.2.2.2.2.1⟩, by rw [List.getElem?_set, if_pos rfl, if_pos (by rw [HJ.out.2.2.2.2.1.1]; exact hin)], ?_⟩
              show (r.d.set j y).length = m
              rw [List.length_set]; exact HJ.out.2.2.2.2.2.2
            case measure => simp [intOf]; omega
        · have r1 : decide ((j : Int) < (m : Int)) = false := decide_eq_false (by omega)
          have r2 : decide (j < m) = false := decide_eq_false hj
          go_wp2
          go_roundw
          case rel => exact ⟨k + 1, R, by go_num, by omega, HJ.out.1, HJ.out.2.1, HJ.out.2.2.1, HJ.out.2.2.2.1.next HJ.out.2.2.2.2.2.1 (by rw [HJ.out.2.2.2.2.2.2]; exact hj), HJ.out.2.2.2.2.1.1, HJ.out.2.2.2.2.1.2⟩
          case measure => simp [intOf]; omega
    · have p1 : decide ((k : Int) < (n : Int)) = false := decide_eq_false (by omega)
      have p2 : decide (k < n) = false := decide_eq_false hin
      have hkn : k = n := by omega
      have HB0 : Hid (Rs wr base (.slice va n vc) R ∧ Below base w wr ∧ K8 w wr ∧ Mb R n 0 ∧ R.length = n ∧ Lb R) := ⟨HI.out.1, HI.out.2.1, HI.out.2.2.1, by rw [← hkn]; exact HI.out.2.2.2.1, HI.out.2.2.2.2.1, HI.out.2.2.2.2.2⟩
      clear HI hin hkn
      go_wp2_with fail
      go_loopw [5] (fun ix wr => ∃ k : Nat, ix = .int .i64 (k : Nat) ∧ k ≤ n ∧ Hid (Rs wr base (.slice va n vc) R ∧ Below base w wr ∧ K8 w wr)) (fun ix _ => n - (intOf ix).toNat)
      case atStart => exact ⟨0, rfl, Nat.zero_le _, HB0.out.1, HB0.out.2.1, HB0.out.2.2.1⟩
      case round =>
        obtain ⟨k, rfl, hk, HI⟩ := hrel
        by_cases hin : k < n
        · have p1 : decide ((k : Int) < (n : Int)) = true := decide_eq_true (by omega)
          have p2 : decide (k < n) = true := decide_eq_true hin
          have i0 : (0 : Int) ≤ (k : Int) := by omega
          have i1 : (k : Int) < (n : Int) := by omega
          have i2 : ((k : Int)).toNat = k := by omega
          have wk1 : IntKind.i64.wrap ((k : Int) + 1) = (k : Int) + 1 := i64_s _ (by omega) (by omega)
          obtain ⟨r, hr⟩ : ∃ r, R[k]? = some r := ⟨_, List.getElem?_eq_getElem (by rw [HB0.out.2.2.2.2.1]; exact hin)⟩
          obtain ⟨g, cap, hv, _, hg2, hgc, _⟩ := HI.out.1.at hr
          simp only [Value.slice.injEq] at hv
          obtain ⟨rfl, hnE_, hcE_⟩ := hv
          clear hnE_ hcE_
          obtain ⟨m, hm⟩ : ∃ m, r.d.length = m := ⟨_, rfl⟩
          have hmb : m ≤ 140000000000 := by rw [← hm]; exact HB0.out.2.2.2.2.2 k r hr
          have c3 : wr.cell? ⟨g, k, none⟩ = some (.slice r.a m r.cap) := by rw [hgc, ← hm]; rfl
          have HE : Hid (R[k]? = some r ∧ r.d.length = m) := ⟨hr, hm⟩
          have HL0 : Hid (Lg wr base (.slice (some ⟨g, 0, none⟩) n vc) R k r (.slice r.a m r.cap) []) := by rw [← hm]; exact Lg.start HI.out.1 hr
          clear hr hgc hm
          go_upto_region 12 with fail
          clear c3
          go_wp2_with fail
          go_loopw [6, 7] (fun fv jx wr => ∃ (j : Nat) (x : List Nat), jx = .int .i64 (j : Nat) ∧ j ≤ 70 ∧ Hid (Lg wr base (.slice (some ⟨g, 0, none⟩) n vc) R k r fv x ∧ Below base w wr ∧ K8 w wr ∧ x.length = j)) (fun _ jx _ => 70 - (intOf jx).toNat)
          case atStart => exact ⟨0, [], rfl, by omega, HL0.out, HI.out.2.1, HI.out.2.2, rfl⟩
          case round =>
            clear HI HL0
            obtain ⟨j, x, rfl, hj70, HJ⟩ := hrel
            by_cases hj : j < 70
            · have r1 : decide ((j : Int) < 70) = true := decide_eq_true (by omega)
              have r2 : decide (j < 70) = true := decide_eq_true hj
              have r3 : IntKind.i64.wrap ((j : Int) + 1) = (j : Int) + 1 := i64_s _ (by omega) (by omega)
              obtain ⟨fa, fc, hf⟩ := HJ.out.1.b.form
              obtain ⟨N, hN⟩ : ∃ N, N = (r.d ++ x).length := ⟨_, rfl⟩
              have HN : Hid (N = (r.d ++ x).length ∧ N ≤ 140000000000000) := ⟨hN, by rw [hN, List.length_append, HE.out.2, HJ.out.2.2.2]; omega⟩
              rw [← hN] at hf
              subst hf
              clear hN
              obtain ⟨wy, hwy⟩ : ∃ y_, y_ = wr.alloc (.cells #[.int .u8 255] 5) := ⟨_, rfl⟩
              have HYB : Hid (Below wr.heap.size wr wy) := by show Below _ _ _; rw [hwy]; exact (Below.refl _ _).alloc (Nat.le_refl _) _
              have HYC : Hid (wy.cell? ⟨wr.heap.size, 0, none⟩ = some (.int .u8 ((255 : Nat) : Int))) := by show _ = _; rw [hwy, World.cell?_alloc_at _ _ _ _ rfl]; rfl
              have HYW : Hid _ := hwy
              clear hwy
              go_upto_region 14 with (first | (at_builtin; refine append_two rfl (.tmp 51) (.tmp 52) rfl base (.slice fa N fc) (r.d ++ x) rfl ?gr_ wr.heap.size 255 rfl ?gs_ (by rw [← HN.out.1]; exact HN.out.2) ?gk_))
              case gr_ => rw [← HYW.out]; exact (HJ.out.1.below HYB.out).b
              case gs_ => rw [← HYW.out]; exact HYC.out
              rw [← HYW.out]
              intro v2 w2 hs2
              have HP : Hid (Lg w2 base (.slice (some ⟨g, 0, none⟩) n vc) R k r v2 (x ++ [255]) ∧ Below base w w2 ∧ K8 w w2) := by
                have h1 := HJ.out.2.1.trans (HYB.out.mono (Nat.le_trans hbs HJ.out.2.1.size))
                obtain ⟨q1, q2, q3⟩ := (HJ.out.1.below HYB.out).step (y := 255) (Nat.le_trans hbs h1.size) hs2
                exact ⟨q1, h1.trans q3, (HJ.out.2.2.1.trans (K8.below HYB.out)).trans q2⟩
              clear hs2
              go_wp2
              go_roundw
              case rel => exact ⟨j + 1, x ++ [255], by go_num, by omega, HP.out.1, HP.out.2.1, HP.out.2.2, by rw [List.length_append, HJ.out.2.2.2]; rfl⟩
              case measure => simp [intOf]; omega
            · have r1 : decide ((j : Int) < 70) = false := decide_eq_false (by omega)
              have r2 : decide (j < 70) = false := decide_eq_false hj
              go_wp2
              go_roundw
              case rel => exact ⟨k + 1, by go_num, by omega, HJ.out.1.rs, HJ.out.2.1, HJ.out.2.2.1⟩
              case measure => simp [intOf]; omega
        · have p1 : decide ((k : Int) < (n : Int)) = false := decide_eq_false (by omega)
          have p2 : decide (k < n) = false := decide_eq_false hin
          clear hin
          obtain ⟨WF, hWF⟩ : ∃ W, W = wr := ⟨_, rfl⟩
          have HF : Hid (Rs WF base (.slice va n vc) R ∧ Below base w WF ∧ K8 w WF ∧ Mb R n 0 ∧ R.length = n ∧ Lb R) := by rw [hWF]; exact ⟨HI.out.1, HI.out.2.1, HI.out.2.2, HB0.out.2.2.2.1, HB0.out.2.2.2.2.1, HB0.out.2.2.2.2.2⟩
          rw [← hWF]
          clear HI hWF HB0
          go_wp2_with fail
          go_loopw [8] (fun ix wr => ∃ k : Nat, ix = .int .i64 (k : Nat) ∧ k ≤ n ∧ Hid (Below WF.heap.size WF wr)) (fun ix _ => n - (intOf ix).toNat)
          case atStart => exact ⟨0, rfl, Nat.zero_le _, Below.refl _ _⟩
          case round =>
            obtain ⟨k, rfl, hk, HI⟩ := hrel
            by_cases hin : k < n
            · have p1 : decide ((k : Int) < (n : Int)) = true := decide_eq_true (by omega)
              have p2 : decide (k < n) = true := decide_eq_true hin
              have i0 : (0 : Int) ≤ (k : Int) := by omega
              have i1 : (k : Int) < (n : Int) := by omega
              have i2 : ((k : Int)).toNat = k := by omega
              have wk1 : IntKind.i64.wrap ((k : Int) + 1) = (k : Int) + 1 := i64_s _ (by omega) (by omega)
              obtain ⟨r, hr⟩ : ∃ r, R[k]? = some r := ⟨_, List.getElem?_eq_getElem (by rw [HF.out.2.2.2.2.1]; exact hin)⟩
              obtain ⟨g, cap, hv, _, hg2, hgc, _⟩ := HF.out.1.at hr
              simp only [Value.slice.injEq] at hv
              obtain ⟨rfl, hnE_, hcE_⟩ := hv
              clear hnE_ hcE_
              obtain ⟨m, hm⟩ : ∃ m, r.d.length = m := ⟨_, rfl⟩
              have hmb : m ≤ 140000000000 := by rw [← hm]; exact HF.out.2.2.2.2.2 k r hr
              have HC : Hid (∀ A : World, Below WF.heap.size WF A → A.cell? ⟨g, k, none⟩ = some (.slice r.a m r.cap)) := fun A hA => by
                rw [hA.cell (p := ⟨g, k, none⟩) hg2, hgc, ← hm]; rfl
              have HE : Hid (R[k]? = some r ∧ r.d.length = m) := ⟨hr, hm⟩
              clear hr hgc hm
              go_wp2_with fail
              go_loopw [9] (fun jx wr => ∃ j : Nat, jx = .int .i64 (j : Nat) ∧ j ≤ m ∧ Hid (Below WF.heap.size WF wr)) (fun jx _ => m - (intOf jx).toNat)
              case atStart => exact ⟨0, rfl, Nat.zero_le _, HI.out⟩
              case round =>
                clear HI
                obtain ⟨j, rfl, hjm, HJ⟩ := hrel
                have c3 := HC.out wr HJ.out
                by_cases hj : j < m
                · have r1 : decide ((j : Int) < (m : Int)) = true := decide_eq_true (by omega)
                  have r2 : decide (j < m) = true := decide_eq_true hj
                  have r3 : IntKind.i64.wrap ((j : Int) + 1) = (j : Int) + 1 := i64_s _ (by omega) (by omega)
                  have r4 : (0 : Int) ≤ (j : Int) := by omega
                  have r5 : (j : Int) < (m : Int) := by omega
                  have r6 : ((j : Int)).toNat = j := by omega
                  obtain ⟨b, hb, _, _, hcb, _, _⟩ := HF.out.1.byte HE.out.1 (j := j) (by rw [HE.out.2]; exact hj)
                  rw [(HF.out.2.2.2.1 k r HE.out.1).1 (by omega) j (by rw [HE.out.2]; exact hj)] at hcb
                  have HB2 : Hid (∀ A : World, Below WF.heap.size WF A → A.cell? ⟨b, j, none⟩ = some (.int .u8 ((mkb k j : Nat) : Int))) := fun A hA => by
                    rw [hA.cell (p := ⟨b, j, none⟩) (World.block_lt_of_cell? WF _ hcb), hcb]
                  have HC2 : Hid (∀ A : World, Below WF.heap.size WF A → A.cell? ⟨g, k, none⟩ = some (.slice (some ⟨b, 0, none⟩) m r.cap)) := fun A hA => by rw [← hb]; exact HC.out A hA
                  rw [hb] at c3
                  clear hb hcb
                  go_upto_region 22 with fail
                  clear c3
                  by_cases hpar : j % 2 = 0
                  · have a1 : bits .and .i64 (j : Int) 1 = 0 := by rw [and_1]; omega
                    have a2 : mkb k j = k % 256 := by unfold mkb; rw [if_pos hpar]
                    obtain ⟨y, hy⟩ : ∃ y, y = mkb k j := ⟨_, rfl⟩
                    have a3 : (k : Int) % 256 = (y : Int) := by rw [hy, a2]; omega
                    have a4 : IntKind.u8.wrap (k : Int) = (y : Int) := by rw [← a3, IntKind.wrap_u8]
                    rw [← hy] at HB2
                    have HYY : Hid (y = mkb k j) := hy
                    clear hy a2 hpar
                    refine MixH.start (fun A => Below WF.heap.size WF A) (by kernel_rfl) ?_
                    obtain ⟨wA, hwA⟩ : ∃ W_, W_ = wr.drew := ⟨_, rfl⟩
                    have bdr : Below wr.heap.size wr wA := by rw [hwA]; exact (Below.refl _ _).drew
                    have hS : Below WF.heap.size WF wA := HJ.out.trans (bdr.mono HJ.out.size)
                    rw [← hwA]
                    clear hwA bdr
                    refine MixH.takes [true, true, true, false, true, false, false, true, true, true, true, true, true] 4 (by kernel_rfl) (by kernel_rfl) (by decide) (by kernel_rfl) hS (fun K hK => ?_)
                    simp only [Mix.pick]
                    repeat (go_big_quiet_step (fail))
                    refine wpQuiet_nil (hK _ ?_)
                    clear hK K
                    refine MixH.take 3 3 _ (.slice (some ⟨b, 0, none⟩) m r.cap) rfl (by kernel_rfl) (by kernel_rfl) (by kernel_rfl) (by kernel_rfl) (yields_row (.tmp 71) rfl ⟨g, k, none⟩ (.slice (some ⟨b, 0, none⟩) m r.cap) rfl rfl (fun A hA => HC2.out A hA)) hS (fun a' ha => ?_)
                    simp only [Act.put, List.setIfInBounds_toArray, List.set_cons_succ, List.set_cons_zero] at ha
                    subst ha
                    refine MixH.takes [false, false, false, false, false, true] 2 (by kernel_rfl) (by kernel_rfl) (by decide) (by kernel_rfl) hS (fun K hK => ?_)
                    simp only [Mix.pick]
                    repeat (go_big_quiet_step (fail))
                    refine wpQuiet_nil (hK _ ?_)
                    clear hK K
                    refine MixH.take 1 6 _ (.int .u8 (y : Int)) rfl (by kernel_rfl) (by kernel_rfl) (by kernel_rfl) (by kernel_rfl) (yields_u8 (.tmp 74) rfl ⟨b, j, none⟩ (.int .u8 (y : Int)) rfl rfl (fun A hA => HB2.out A hA)) hS (fun a' ha => ?_)
                    simp only [Act.put, List.setIfInBounds_toArray, List.set_cons_succ, List.set_cons_zero] at ha
                    subst ha
                    refine MixH.takes [false, false, false, false, false, false, false, false, false, false, false, false, false, true] 0 (by kernel_rfl) (by kernel_rfl) (by decide) (by kernel_rfl) hS (fun K hK => ?_)
                    simp only [Mix.pick]
                    repeat (go_big_quiet_step (fail))
                    refine wpQuiet_nil (hK _ ?_)
                    clear hK K
                    refine MixH.done (by kernel_rfl) ?_
                    have HG2 : Hid (Below WF.heap.size WF wA) := hS
                    clear hS
                    go_wp2
                    go_roundw
                    case rel => exact ⟨j + 1, by go_num, by omega, HG2.out⟩
                    case measure => simp [intOf]; omega
                  · have a1 : bits .and .i64 (j : Int) 1 = 1 := by rw [and_1]; omega
                    have a2 : mkb k j = k / 256 % 256 := by unfold mkb; rw [if_neg hpar]
                    obtain ⟨y, hy⟩ : ∃ y, y = mkb k j := ⟨_, rfl⟩
                    have a3 : (k : Int) / 256 % 256 = (y : Int) := by rw [hy, a2]; omega
                    have a4 : IntKind.u8.wrap ((k : Int) / 256) = (y : Int) := by rw [← a3, IntKind.wrap_u8]
                    rw [← hy] at HB2
                    have HYY : Hid (y = mkb k j) := hy
                    clear hy a2 hpar
                    refine MixH.start (fun A => Below WF.heap.size WF A) (by kernel_rfl) ?_
                    obtain ⟨wA, hwA⟩ : ∃ W_, W_ = wr.drew := ⟨_, rfl⟩
                    have bdr : Below wr.heap.size wr wA := by rw [hwA]; exact (Below.refl _ _).drew
                    have hS : Below WF.heap.size WF wA := HJ.out.trans (bdr.mono HJ.out.size)
                    rw [← hwA]
                    clear hwA bdr
                    refine MixH.takes [true, true, true, false, true, false, false, true, true, true, true, true, true] 4 (by kernel_rfl) (by kernel_rfl) (by decide) (by kernel_rfl) hS (fun K hK => ?_)
                    simp only [Mix.pick]
                    repeat (go_big_quiet_step (fail))
                    refine wpQuiet_nil (hK _ ?_)
                    clear hK K
                    refine MixH.take 3 3 _ (.slice (some ⟨b, 0, none⟩) m r.cap) rfl (by kernel_rfl) (by kernel_rfl) (by kernel_rfl) (by kernel_rfl) (yields_row (.tmp 71) rfl ⟨g, k, none⟩ (.slice (some ⟨b, 0, none⟩) m r.cap) rfl rfl (fun A hA => HC2.out A hA)) hS (fun a' ha => ?_)
                    simp only [Act.put, List.setIfInBounds_toArray, List.set_cons_succ, List.set_cons_zero] at ha
                    subst ha
                    refine MixH.takes [false, false, false, false, false, true] 2 (by kernel_rfl) (by kernel_rfl) (by decide) (by kernel_rfl) hS (fun K hK => ?_)
                    simp only [Mix.pick]
                    repeat (go_big_quiet_step (fail))
                    refine wpQuiet_nil (hK _ ?_)
                    clear hK K
                    refine MixH.take 1 6 _ (.int .u8 (y : Int)) rfl (by kernel_rfl) (by kernel_rfl) (by kernel_rfl) (by kernel_rfl) (yields_u8 (.tmp 74) rfl ⟨b, j, none⟩ (.int .u8 (y : Int)) rfl rfl (fun A hA => HB2.out A hA)) hS (fun a' ha => ?_)
                    simp only [Act.put, List.setIfInBounds_toArray, List.set_cons_succ, List.set_cons_zero] at ha
                    subst ha
                    refine MixH.takes [false, false, false, false, false, false, false, false, false, false, false, false, false, true] 0 (by kernel_rfl) (by kernel_rfl) (by decide) (by kernel_rfl) hS (fun K hK => ?_)
                    simp only [Mix.pick]
                    repeat (go_big_quiet_step (fail))
                    refine wpQuiet_nil (hK _ ?_)
                    clear hK K
                    refine MixH.done (by kernel_rfl) ?_
                    have HG2 : Hid (Below WF.heap.size WF wA) := hS
                    clear hS
                    go_wp2
                    go_roundw
                    case rel => exact ⟨j + 1, by go_num, by omega, HG2.out⟩
                    case measure => simp [intOf]; omega
                · have r1 : decide ((j : Int) < (m : Int)) = false := decide_eq_false (by omega)
                  have r2 : decide (j < m) = false := decide_eq_false hj
                  go_wp2
                  go_roundw
                  case rel => exact ⟨k + 1, by go_num, by omega, HJ.out⟩
                  case measure => simp [intOf]; omega
            · have p1 : decide ((k : Int) < (n : Int)) = false := decide_eq_false (by omega)
              have p2 : decide (k < n) = false := decide_eq_false hin
              clear hin
              go_wp2
              go_ret
              exact ⟨rfl, HF.out.2.1.trans (HI.out.mono (Nat.le_trans hbs HF.out.2.1.size)), HF.out.2.2.1.trans (K8.below HI.out)⟩
end Go.Proofs.Ytpdfepnifjolkaa
