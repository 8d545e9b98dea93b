/-
  Layer 20, captures: what is written; the head of a frame.
-/
import Derived.Test.YtpdfepnifjolkaaDC3
namespace Go.Proofs.Ytpdfepnifjolkaa
open Go.RowKit Go.ChangeShapes Go.WideShapes

/-- why a frame is refused -/
def wrE (c : CV) : Int := if c.1 < 0 ∨ 4294967295 < c.1 ∨ c.2.1 < 0 ∨ 255 < c.2.1 then 1 else if 65535 < c.2.2.2.length then 2 else 0
/-- what stands ahead of a frame's own bytes -/
def hdC (c : CV) : List Nat := [c.1.toNat / 16777216 % 256, c.1.toNat / 65536 % 256, c.1.toNat / 256 % 256, c.1.toNat % 256, c.2.1.toNat % 256, if c.2.2.1 then 1 else 0, c.2.2.2.length / 256 % 256, c.2.2.2.length % 256]
theorem hdC_len (c : CV) : (hdC c).length = 8 := rfl
theorem hdC_256 (c : CV) : ∀ x ∈ hdC c, x < 256 := by
  intro x hx
  simp only [hdC, List.mem_cons, List.not_mem_nil, or_false] at hx
  rcases hx with rfl | rfl | rfl | rfl | rfl | rfl | rfl | rfl <;> first | exact Nat.mod_lt _ (by decide) | (split <;> decide)
/-- the frames' bytes, or the error -/
def wrF : List CV → List Nat × Int
  | [] => ([], 0)
  | c :: r => if wrE c = 0 then (if (wrF r).2 = 0 then (hdC c ++ (c.2.2.2 ++ (wrF r).1), 0) else ([], (wrF r).2)) else ([], wrE c)
/-- what WriteCapture answers -/
def wrA (cs : List CV) : List Nat × Int := if (wrF cs).2 = 0 then (mg ++ (wrF cs).1, 0) else ([], (wrF cs).2)
def apw (bs : List Nat) (r : List Nat × Int) : List Nat × Int := (if r.2 = 0 then bs ++ r.1 else [], r.2)
theorem apw_mg (cs : List CV) : apw mg (wrF cs) = wrA cs := by
  unfold apw wrA
  by_cases h : (wrF cs).2 = 0
  · rw [if_pos h, if_pos h, h]
  · rw [if_neg h, if_neg h]
theorem apw_step (bs : List Nat) (c : CV) (r : List CV) (h : wrE c = 0) : apw bs (wrF (c :: r)) = apw (bs ++ hdC c ++ c.2.2.2) (wrF r) := by
  unfold apw
  simp only [wrF, h, if_true]
  by_cases e : (wrF r).2 = 0
  · simp [e]
  · simp [e]
theorem wr_bad (c : CV) (r : List CV) (h : wrE c ≠ 0) : wrF (c :: r) = ([], wrE c) := by simp [wrF, h]
theorem wrE_1 {c : CV} (h : c.1 < 0 ∨ 4294967295 < c.1 ∨ c.2.1 < 0 ∨ 255 < c.2.1) : wrE c = 1 := if_pos h
theorem wrE_2 {c : CV} (h : ¬ (c.1 < 0 ∨ 4294967295 < c.1 ∨ c.2.1 < 0 ∨ 255 < c.2.1)) (k : 65535 < c.2.2.2.length) : wrE c = 2 := by unfold wrE; rw [if_neg h, if_pos k]
theorem wrE_0 {c : CV} (h : ¬ (c.1 < 0 ∨ 4294967295 < c.1 ∨ c.2.1 < 0 ∨ 255 < c.2.1)) (k : ¬ 65535 < c.2.2.2.length) : wrE c = 0 := by unfold wrE; rw [if_neg h, if_neg k]
theorem u8_n (x : Nat) : IntKind.u8.wrap (x : Int) = ((x % 256 : Nat) : Int) := by rw [IntKind.wrap_u8]; omega
set_option maxHeartbeats 1600000 in
set_option maxRecDepth 100000 in
theorem head_any (w : World) (c : CE) (h0 : ¬ (c.tk < 0 ∨ 4294967295 < c.tk ∨ c.pt < 0 ∨ 255 < c.pt)) (h1 : ¬ 65535 < c.d.length) : Calls Try.prog 17 #[.agg (ceA c)] w fun e w' => Below w.heap.size w w' ∧ ∃ g, e = .returned (.slice (some ⟨g, 0, none⟩) 8 8) ∧ w.heap.size ≤ g ∧ Seg .u8 w' (some ⟨g, 0, none⟩) (toI (hdC (cvt c))) := by
  obtain ⟨tk, htk⟩ : ∃ x : Nat, c.tk = (x : Int) := ⟨c.tk.toNat, by omega⟩
  obtain ⟨pt, hpt⟩ : ∃ x : Nat, c.pt = (x : Int) := ⟨c.pt.toNat, by omega⟩
  obtain ⟨n, hn⟩ : ∃ n, c.d.length = n := ⟨_, rfl⟩
  have HH : Hid (hdC (cvt c) = [tk / 16777216 % 256, tk / 65536 % 256, tk / 256 % 256, tk % 256, pt % 256, if c.ou then 1 else 0, n / 256 % 256, n % 256]) := by show hdC _ = _; unfold hdC cvt; simp only; rw [htk, hpt, hn]; rfl
  have b1 : tk ≤ 4294967295 := by omega
  have b2 : pt ≤ 255 := by omega
  have b3 : n ≤ 65535 := by omega
  clear h0 h1
  go_enter Try.func17, Try.ntmps17
  go_upto_region 1 with (first | (refine wpList_box_cap (.tmp 0) rfl c rfl rfl ?_; intro O Y hO hA bY))
  have HO : Hid _ := hO
  have HA : Hid (CapAt Y O c) := hA
  have HB : Hid (Below w.heap.size w Y) := bY
  have c0 : Y.cell? ⟨O, 0, none⟩ = some (.int .i64 (tk : Int)) := by rw [hA.cell 0, ← htk]; rfl
  have c1 : Y.cell? ⟨O, 1, none⟩ = some (.int .i64 (pt : Int)) := by rw [hA.cell 1, ← hpt]; rfl
  have c2 : Y.cell? ⟨O, 2, none⟩ = some (.bool c.ou) := by rw [hA.cell 2]; rfl
  have c3 : Y.cell? ⟨O, 3, none⟩ = some (.slice c.a n c.cap) := by rw [hA.cell 3, ← hn]; rfl
  clear hO hA bY htk hpt hn
  go_upto_if 7 with fail
  go_cut [3] (fun x wx => x = .int .u8 (if c.ou then 1 else 0) ∧ Y = wx)
  case first =>
    cases hou : c.ou
    · rw [hou] at c2
      go_wp2
      go_meet
      exact ⟨by simp [hou], rfl⟩
    · rw [hou] at c2
      go_wp2
      go_meet
      exact ⟨by simp [hou], rfl⟩
  case rest =>
    obtain ⟨rfl, rfl⟩ := hcut
    obtain ⟨ou, hou⟩ : ∃ x : Nat, x = if c.ou then 1 else 0 := ⟨_, rfl⟩
    have hoi : (if c.ou then (1 : Int) else 0) = (ou : Int) := by rw [hou]; cases c.ou <;> rfl
    rw [hoi]
    have HOU : Hid (ou = if c.ou then 1 else 0) := hou
    have HC4 : Hid (∀ A : World, CapAt A O c → A.cell? ⟨O, 0, none⟩ = some (.int .i64 (tk : Int)) ∧ A.cell? ⟨O, 1, none⟩ = some (.int .i64 (pt : Int)) ∧ A.cell? ⟨O, 3, none⟩ = some (.slice c.a n c.cap)) := fun A hA => by
      have e0 := HA.out.cell 0
      have e1 := HA.out.cell 1
      have e3 := HA.out.cell 3
      rw [c0] at e0
      rw [c1] at e1
      rw [c3] at e3
      exact ⟨(hA.cell 0).trans e0.symm, (hA.cell 1).trans e1.symm, (hA.cell 3).trans e3.symm⟩
    clear hou hoi c0 c1 c2 c3
    go_upto_region 4 with fail
    refine MixH.start (fun A => CapAt A O c) (by kernel_rfl) ?_
    obtain ⟨wA, hwA⟩ : ∃ W_, W_ = Y.drew := ⟨_, rfl⟩
    have bdr : Below Y.heap.size Y wA := by rw [hwA]; exact (Below.refl _ _).drew
    have hS : CapAt wA O c := HA.out.below bdr
    have HBA : Hid (Below w.heap.size w wA) := HB.out.trans (bdr.mono HB.out.size)
    rw [← hwA]
    clear hwA bdr
    refine MixH.takes [true, false, true] 5 (by kernel_rfl) (by kernel_rfl) (by decide) (by kernel_rfl) hS (fun K hK => ?_)
    simp only [Mix.pick]
    repeat (go_big_quiet_step (fail))
    refine wpQuiet_nil (hK _ ?_)
    clear hK K
    refine MixH.take 4 1 _ (.int .i64 (tk : Int)) rfl (by kernel_rfl) (by kernel_rfl) (by kernel_rfl) (by kernel_rfl) (yields_int (.tmp 8) rfl ⟨O, 0, none⟩ (.int .i64 (tk : Int)) rfl rfl (fun A hA => (HC4.out A hA).1)) hS (fun a' ha => ?_)
    simp only [Act.put, List.setIfInBounds_toArray, List.set_cons_succ, List.set_cons_zero] at ha
    subst ha
    refine MixH.takes [false, false, false, false, false, true] 3 (by kernel_rfl) (by kernel_rfl) (by decide) (by kernel_rfl) hS (fun K hK => ?_)
    simp only [Mix.pick]
    repeat (go_big_quiet_step (fail))
    refine wpQuiet_nil (hK _ ?_)
    clear hK K
    refine MixH.take 2 3 _ (.slice c.a n c.cap) rfl (by kernel_rfl) (by kernel_rfl) (by kernel_rfl) (by kernel_rfl) (yields_row (.tmp 10) rfl ⟨O, 3, none⟩ (.slice c.a n c.cap) rfl rfl (fun A hA => (HC4.out A hA).2.2)) hS (fun a' ha => ?_)
    simp only [Act.put, List.setIfInBounds_toArray, List.set_cons_succ, List.set_cons_zero] at ha
    subst ha
    refine MixH.takes [false, false, false, false, true, false, true] 0 (by kernel_rfl) (by kernel_rfl) (by decide) (by kernel_rfl) hS (fun K hK => ?_)
    simp only [Mix.pick]
    repeat (go_big_quiet_step (fail))
    refine wpQuiet_nil (hK _ ?_)
    clear hK K
    refine MixH.done (by kernel_rfl) ?_

    have c1 := (HC4.out wA hS).2.1
    clear hS HC4
    go_wp2
    go_ret
    refine ⟨HBA.out.trans (((Below.refl _ _).alloc (Nat.le_refl _) _ : Below wA.heap.size wA _).mono HBA.out.size), wA.heap.size, rfl, HBA.out.size, ?_⟩
    rw [HH.out, ← HOU.out]
    have e : toI [tk / 16777216 % 256, tk / 65536 % 256, tk / 256 % 256, tk % 256, pt % 256, ou, n / 256 % 256, n % 256] = [(tk : Int) / 16777216, (tk : Int) / 65536 % 256, (tk : Int) / 256 % 256, (tk : Int) % 256, (pt : Int), (ou : Int), (n : Int) / 256, (n : Int) % 256] := by
      simp only [toI, List.map_cons, List.map_nil, List.cons.injEq, and_true]
      refine ⟨by omega, by omega, by omega, by omega, by omega, trivial, by omega, by omega⟩
    rw [e]
    exact seg_new3 wA .u8 5 _
end Go.Proofs.Ytpdfepnifjolkaa
