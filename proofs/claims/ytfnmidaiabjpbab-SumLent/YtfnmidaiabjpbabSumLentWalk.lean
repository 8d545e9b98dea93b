/-
  The walk of SumLent: it answers true, whatever it is handed, and writes nothing that was there.
-/
import Derived.Test.YtfnmidaiabjpbabPs4
import Derived.Test.YtfnmidaiabjpbabSame
import Derived.Test.YtfnmidaiabjpbabApart4
namespace Go.Proofs.Ytfnmidaiabjpbab.sumLent
open Go.RowKit

theorem psL_le (V U : Int) (x y : Nat → Nat) (p n : Int) : (psL V U x y p n).length ≤ 40 := by
  unfold psL
  split
  · split <;> simp [ipL_len]
  · simp

set_option maxHeartbeats 3200000 in
set_option maxRecDepth 100000 in
theorem core (V U : Int) (x y : Nat → Nat) (p n : Int) (w : World) :
    Calls Try.prog 5 #[.agg (ipCells V x), .agg (ipCells U y), .int .i64 p, .int .i64 n] w fun e w' => e = .returned (.bool true) ∧ Below w.heap.size w w' := by
  obtain ⟨j0, hj, hy0, hy1', hy2⟩ := info_parts Ap.infoBytes
  have hx1 := boxed_new w V x 44
  have hy1 := boxed_new (w.alloc (.cells (ipCells V x) 44)) U y 44
  have hb1 : Below w.heap.size w ((w.alloc (.cells (ipCells V x) 44)).alloc (.cells (ipCells U y) 44)) := ((Below.refl _ _).alloc (Nat.le_refl _) _).alloc (by simp) _
  have hx2 := hx1.old ((Below.refl _ _).alloc (Nat.le_refl _) (.cells (ipCells U y) 44))
  clear hx1
  rw [World.size_alloc] at hy1
  obtain ⟨A, hA⟩ : ∃ A, A = ipCells V x := ⟨_, rfl⟩
  obtain ⟨C, hC⟩ : ∃ C, C = ipCells U y := ⟨_, rfl⟩
  rw [← hA] at hx2 hy1 hb1 ⊢
  rw [← hC] at hx2 hy1 hb1 ⊢
  clear hA hC
  go_enter Try.func5, Try.ntmps5
  go_upto_region 1 with fail
  obtain ⟨W, hW⟩ : ∃ W, W = (w.alloc (.cells A 44)).alloc (.cells C 44) := ⟨_, rfl⟩
  rw [← hW] at hx2 hy1 hb1 ⊢
  clear hW
  obtain ⟨B, hB⟩ : ∃ B, B = w.heap.size := ⟨_, rfl⟩
  rw [← hB] at hx2 hy1 ⊢
  clear hB
  go_upto_region 2 with fail
  have hbW : Below w.heap.size w (W.alloc (.cells #[.int .i64 4, .int .u8 0, .int .u8 0, .int .u8 0, .int .u8 0, .int .u8 0, .int .u8 0, .int .u8 0, .int .u8 0, .int .u8 0, .int .u8 0, .int .u8 0, .int .u8 0, .int .u8 0, .int .u8 0, .int .u8 0, .int .u8 0] 44)) := hb1.alloc hb1.size _
  have hv2 : Boxed (W.alloc (.cells #[.int .i64 4, .int .u8 0, .int .u8 0, .int .u8 0, .int .u8 0, .int .u8 0, .int .u8 0, .int .u8 0, .int .u8 0, .int .u8 0, .int .u8 0, .int .u8 0, .int .u8 0, .int .u8 0, .int .u8 0, .int .u8 0, .int .u8 0] 44)) W.heap.size 4 (fun _ => 0) := boxed_new W 4 (fun _ => 0) 44
  have hx3 := hx2.old ((Below.refl _ _).alloc (Nat.le_refl _) (.cells #[.int .i64 4, .int .u8 0, .int .u8 0, .int .u8 0, .int .u8 0, .int .u8 0, .int .u8 0, .int .u8 0, .int .u8 0, .int .u8 0, .int .u8 0, .int .u8 0, .int .u8 0, .int .u8 0, .int .u8 0, .int .u8 0, .int .u8 0] 44))
  have hy3 := hy1.old ((Below.refl _ _).alloc (Nat.le_refl _) (.cells #[.int .i64 4, .int .u8 0, .int .u8 0, .int .u8 0, .int .u8 0, .int .u8 0, .int .u8 0, .int .u8 0, .int .u8 0, .int .u8 0, .int .u8 0, .int .u8 0, .int .u8 0, .int .u8 0, .int .u8 0, .int .u8 0, .int .u8 0] 44))
  obtain ⟨W2, hW2⟩ : ∃ W2, W2 = W.alloc (.cells #[.int .i64 4, .int .u8 0, .int .u8 0, .int .u8 0, .int .u8 0, .int .u8 0, .int .u8 0, .int .u8 0, .int .u8 0, .int .u8 0, .int .u8 0, .int .u8 0, .int .u8 0, .int .u8 0, .int .u8 0, .int .u8 0, .int .u8 0] 44) := ⟨_, rfl⟩
  rw [← hW2] at hbW hv2 hx3 hy3 ⊢
  clear hW2 hx2 hy1 hb1
  obtain ⟨D, hD⟩ : ∃ D, D = W.heap.size := ⟨_, rfl⟩
  rw [← hD] at hv2 ⊢
  clear hD
  have HBX : Hid (∀ w', Below W2.heap.size W2 w' → Boxed w' B V x ∧ Boxed w' (B + 1) U y ∧ Boxed w' D 4 (fun _ => 0)) := fun w' h => ⟨hx3.old h, hy3.old h, hv2.old h⟩
  obtain ⟨E, hE⟩ : ∃ E, E = psE V U x y p n := ⟨_, rfl⟩
  obtain ⟨PL, hPL⟩ : ∃ PL, PL = psL V U x y p n := ⟨_, rfl⟩
  have HE : Hid (psE V U x y p n = E) := hE.symm
  have HPL : Hid (psL V U x y p n = PL) := hPL.symm
  clear hE hPL
  have hplen : PL.length ≤ 40 := by rw [← HPL.out]; exact psL_le V U x y p n
  obtain ⟨m, hm⟩ : ∃ m, m = PL.length := ⟨_, rfl⟩
  rw [← hm] at hplen
  have HM : Hid (PL.length = m) := hm.symm
  clear hm
  have HE1 : Hid (psE 4 4 (fun _ => 0) (fun _ => 0) 17 9 = 0) := by show _ = _; decide
  obtain ⟨OL, hOL⟩ : ∃ OL, OL = psL 4 4 (fun _ => 0) (fun _ => 0) 17 9 := ⟨_, rfl⟩
  have HOL : Hid (psL 4 4 (fun _ => 0) (fun _ => 0) 17 9 = OL) := hOL.symm
  have HO12 : Hid (OL.length = 12) := by show _ = _; rw [hOL]; decide
  clear hOL
  go_wp2_with (first | (refine wpList_load_ip (.tmp 4) rfl B V x rfl hx3 rfl ?_) | (refine wpList_load_ip (.tmp 5) rfl (B + 1) U y rfl hy3 rfl ?_))
  refine (rpseudo_any V U x y p n W2).mono ?_
  rintro e w1 ⟨v1, rfl, ho1, hb2⟩
  rw [HE.out]
  rw [HPL.out, HM.out] at ho1
  obtain ⟨a1, c1, rfl⟩ := owns_shape ho1
  obtain ⟨_, _, hv4⟩ := HBX.out _ hb2
  clear hx3 hy3 hv2
  go_wp2_with (first | (refine wpList_load_ip (.tmp 9) rfl D 4 (fun _ => 0) rfl hv4 rfl ?_))
  refine (rpseudo_any 4 4 (fun _ => 0) (fun _ => 0) 17 9 w1).mono ?_
  rintro e wo ⟨v2, rfl, ho2, hb3⟩
  rw [HE1.out]
  rw [HOL.out, HO12.out] at ho2
  obtain ⟨a2, c2, rfl⟩ := owns_shape ho2
  have ho1b := OwnB.below ho1 hb3
  have hb23 := hb2.trans (hb3.mono hb2.size)
  have HWA : Hid (∀ w', Below wo.heap.size wo w' → Seg .u8 w' a1 (toI PL)) := fun w' h => (owns_seg_at ho1b).1.old h
  have HWO : Hid (∀ w', Below wo.heap.size wo w' → Seg .u8 w' a2 (toI OL)) := fun w' h => (owns_seg_at ho2).1.old h
  have HBX2 : Hid (∀ w', Below wo.heap.size wo w' → Boxed w' B V x ∧ Boxed w' (B + 1) U y ∧ Boxed w' D 4 (fun _ => 0)) := fun w' h => HBX.out w' (hb23.trans (h.mono hb23.size))
  have hbo : Below w.heap.size w wo := hbW.trans (hb23.mono hbW.size)
  clear ho1 ho1b ho2 hb3 hb2 hb23 hv4 hbW HBX
  go_wp2
  go_loopw [10, 15] (fun lv ix wr => ∃ (k : Nat) (ps : List Part), k ≤ 2 ∧ ix = .int .i64 k ∧ ps.length = 3 * k ∧ wr.ownsRow wo.heap.size 24 1 lv (3 * k) (ps.map Part.val) ∧ Hid (Ap.Fam wr wo.heap.size ps) ∧ Below wo.heap.size wo wr) (fun _ ix _ => 2 - (intOf ix).toNat)
  case atStart => exact ⟨0, [], by omega, rfl, rfl, World.ownsRow_nil _ _ _ _, Ap.Fam.nil _ _, Below.refl _ _⟩
  case round =>
    obtain ⟨k, ps, hk, rfl, hps, hlv, HF, hbq⟩ := hrel
    have HPS : Hid (ps.length = 3 * k) := hps
    clear hps
    by_cases hlt : k < 2
    · obtain ⟨hx4, hy4, _⟩ := HBX2.out _ hbq
      go_wp2_with (first | (refine wpList_load_ip (.tmp 4) rfl B V x rfl hx4 rfl ?_) | (refine wpList_load_ip (.tmp 5) rfl (B + 1) U y rfl hy4 rfl ?_))
      refine (pseudo_any V U x y p n wr).mono ?_
      rintro e w3 ⟨v3, rfl, ho3, _, hb3⟩
      rw [HE.out]
      rw [HPL.out, HM.out] at ho3
      obtain ⟨a3, c3, rfl⟩ := owns_shape ho3
      have hs0 := hbq.size
      have HF3 : Hid (Ap.Fam w3 wo.heap.size (ps ++ [⟨a3, c3, PL⟩])) := HF.out.add hb3 hs0 ⟨a3, c3, PL⟩ (by show OwnB w3 _ (.slice a3 PL.length c3) PL.length PL; rw [HM.out]; exact ho3) (by show PL.length ≤ 40; rw [HM.out]; exact hplen)
      have hb03 := hbq.trans (hb3.mono hs0)
      have hs3 := hb3.size
      have hlv3 := own_below hlv hb3
      have HG3 : Hid (∀ w', Below w3.heap.size w3 w' → Seg .u8 w' a3 (toI PL)) := fun w' h => (owns_seg_at ho3).1.old h
      obtain ⟨hx5, hy5, _⟩ := HBX2.out _ hb03
      clear hx4 hy4 hlv HF ho3 hb3 hbq
      go_wp2_with (first | (refine wpList_load_ip (.tmp 4) rfl B V x rfl hx5 rfl ?_) | (refine wpList_load_ip (.tmp 5) rfl (B + 1) U y rfl hy5 rfl ?_))
      refine (pseudo_any V U x y p n w3).mono ?_
      rintro e w4 ⟨v4, rfl, ho4, _, hb4⟩
      rw [HE.out]
      rw [HPL.out, HM.out] at ho4
      obtain ⟨a4, c4, rfl⟩ := owns_shape ho4
      have HF4 : Hid (Ap.Fam w4 wo.heap.size ((ps ++ [⟨a3, c3, PL⟩]) ++ [⟨a4, c4, PL⟩])) := HF3.out.add hb4 (by omega) ⟨a4, c4, PL⟩ (by show OwnB w4 _ (.slice a4 PL.length c4) PL.length PL; rw [HM.out]; exact ho4) (by show PL.length ≤ 40; rw [HM.out]; exact hplen)
      have hb04 := hb03.trans (hb4.mono hb03.size)
      have hs4 := hb4.size
      have hlv4 := own_below hlv3 hb4
      have HG4 : Hid (∀ w', Below w4.heap.size w4 w' → Seg .u8 w' a4 (toI PL)) := fun w' h => (owns_seg_at ho4).1.old h
      have HG34 : Hid (∀ w', Below w4.heap.size w4 w' → Seg .u8 w' a3 (toI PL)) := fun w' h => HG3.out w' (bthen hb4 h)
      obtain ⟨_, _, hv6⟩ := HBX2.out _ hb04
      clear hx5 hy5 hlv3 HF3 ho4 hb4 hb03 HG3
      go_wp2_with (first | (refine wpList_load_ip (.tmp 9) rfl D 4 (fun _ => 0) rfl hv6 rfl ?_))
      refine (pseudo_any 4 4 (fun _ => 0) (fun _ => 0) 17 9 w4).mono ?_
      rintro e w5 ⟨v5, rfl, ho5, _, hb5⟩
      rw [HE1.out]
      rw [HOL.out, HO12.out] at ho5
      obtain ⟨a5, c5, rfl⟩ := owns_shape ho5
      have HF5 : Hid (Ap.Fam w5 wo.heap.size (((ps ++ [⟨a3, c3, PL⟩]) ++ [⟨a4, c4, PL⟩]) ++ [⟨a5, c5, OL⟩])) := HF4.out.add hb5 (by omega) ⟨a5, c5, OL⟩ (by show OwnB w5 _ (.slice a5 OL.length c5) OL.length OL; rw [HO12.out]; exact ho5) (by show OL.length ≤ 40; rw [HO12.out]; omega)
      have hb05 := hb04.trans (hb5.mono hb04.size)
      have hs5 := hb5.size
      have hlv5 := own_below hlv4 hb5
      have HSG : Hid (∀ w', Below w5.heap.size w5 w' → Seg .u8 w' a3 (toI PL) ∧ Seg .u8 w' a4 (toI PL) ∧ Seg .u8 w' a5 (toI OL) ∧ Seg .u8 w' a1 (toI PL) ∧ Seg .u8 w' a2 (toI OL)) := fun w' h => ⟨HG34.out w' (bthen hb5 h), HG4.out w' (bthen hb5 h), (owns_seg_at ho5).1.old h, HWA.out w' (hb05.trans (h.mono hb05.size)), HWO.out w' (hb05.trans (h.mono hb05.size))⟩
      clear hv6 hlv4 HF4 ho5 hb5 hb04 HG4 HG34
      have hEE : (E != E) = false := by simp
      go_wp2_with fail
      obtain ⟨g3, _, _, g1, _⟩ := HSG.out w5 (Below.refl _ _)
      refine (same_any a3 a1 m m c3 c1 PL PL w5 HM.out HM.out g3 g1 (by omega)).mono ?_
      rintro e w6 ⟨rfl, hb6⟩
      rw [decide_eq_true rfl]
      clear g3 g1
      go_wp2_with fail
      obtain ⟨_, g4, _, g1, _⟩ := HSG.out w6 hb6
      refine (same_any a4 a1 m m c4 c1 PL PL w6 HM.out HM.out g4 g1 (by omega)).mono ?_
      rintro e w7 ⟨rfl, hb7'⟩
      rw [decide_eq_true rfl]
      have hb7 := bthen hb6 hb7'
      clear g4 g1 hb7' hb6
      go_wp2_with fail
      obtain ⟨_, _, g5, _, g2⟩ := HSG.out w7 hb7
      refine (same_any a5 a2 12 12 c5 c2 OL OL w7 HO12.out HO12.out g5 g2 (by omega)).mono ?_
      rintro e w8 ⟨rfl, hb8'⟩
      rw [decide_eq_true rfl]
      have hb8 := bthen hb7 hb8'
      clear g5 g2 hb8' hb7
      have hlv8 := own_below hlv5 hb8
      have HF8 : Hid _ := HF5.out.old hb8
      have hb08 := hb05.trans (hb8.mono hb05.size)
      have hs8 := hb08.size
      obtain ⟨q, hq⟩ : ∃ q, q = (((ps ++ [⟨a3, c3, PL⟩]) ++ [⟨a4, c4, PL⟩]) ++ [⟨a5, c5, OL⟩] : List Part) := ⟨_, rfl⟩
      have HQ : Hid (ps.map Part.val ++ [.slice a3 m c3, .slice a4 m c4, .slice a5 12 c5] = q.map Part.val) := by
        show _ = _
        rw [hq]
        simp [Part.val, HM.out, HO12.out]
      have HQL : Hid (q.length = 3 * (k + 1)) := by show _ = _; rw [hq]; simp [HPS.out]; omega
      rw [← hq] at HF8
      obtain ⟨xs, hxs⟩ : ∃ xs, xs = ps.map Part.val := ⟨_, rfl⟩
      rw [← hxs] at hlv8 HQ
      obtain ⟨a10, c10, rfl⟩ := owns_shape hlv8
      clear hq hxs hlv5 HF5 hb05 hb8 HSG HPS
      go_wp2_with (first | (at_builtin; refine wpList_append_own _ rfl _ _ 22 rfl wo.heap.size 24 j0 (.slice none 0 0) 1 24 Try.underlying22 hj hy0 hy1' hy2 rfl (by decide) _ _ _ rfl (hlv8.alloc _) ⟨w8.heap.size, 0, none⟩ 3 3 [.slice a3 m c3, .slice a4 m c4, .slice a5 12 c5] rfl rfl (news_new _ _ _) (by intro u hu; simp at hu; rcases hu with rfl | rfl | rfl <;> rfl) (by unfold maxLen; omega) (by omega) (by simp; omega) ?_))
      intro v9 w9 ho9 hg9 _
      rw [HQ.out] at ho9
      have HF9 : Hid (Ap.Fam w9 wo.heap.size q) := (HF8.out.old ((Below.refl _ _).alloc (Nat.le_refl _) (.cells #[.slice a3 m c3, .slice a4 m c4, .slice a5 12 c5] 24))).long (hlv8.alloc _) hg9
      have hb09 : Below wo.heap.size wo w9 := (hb08.alloc hs8 _).grown hg9 (by simp; omega) (fun j hj => (hlv8.lt j hj).1)
      clear hg9 HF8 hb08 hlv8
      go_wp2
      go_roundw
      case rel => exact ⟨k + 1, q, by omega, by go_num, HQL.out, ho9, HF9, hb09⟩
      case measure => simp [intOf]; omega
    · have hk2 : k = 2 := by omega
      rw [hk2] at hlv HPS
      have hlv' : wr.ownsRow wo.heap.size 24 1 u10 6 (ps.map Part.val) := hlv
      obtain ⟨a10, c10, rfl⟩ := owns_shape hlv'
      have hs0 := hbq.size
      clear hk2 hlv
      go_wp2_with fail
      refine (Ap.fam_apart HF.out hlv' HPS.out (by omega) (by omega) hs0).mono ?_
      rintro e w3 ⟨rfl, hb3⟩
      have hb03 := hbq.trans hb3
      obtain ⟨hx5, hy5, _⟩ := HBX2.out _ hb03
      clear hlv' HF hb3 hbq
      go_wp2_with (first | (refine wpList_load_ip (.tmp 4) rfl B V x rfl hx5 rfl ?_) | (refine wpList_load_ip (.tmp 5) rfl (B + 1) U y rfl hy5 rfl ?_))
      refine (pseudo_any V U x y p n w3).mono ?_
      rintro e w4 ⟨v4, rfl, ho4, _, hb4⟩
      rw [HE.out]
      rw [HPL.out, HM.out] at ho4
      obtain ⟨a4, c4, rfl⟩ := owns_shape ho4
      have hb04 := hb03.trans (hb4.mono hb03.size)
      have g1 := HWA.out _ hb04
      have hEE : (E == E) = true := by simp
      clear hx5 hy5 hb4 hb03
      go_wp2_with fail
      refine (same_any a4 a1 m m c4 c1 PL PL w4 HM.out HM.out (owns_seg_at ho4).1 g1 (by omega)).mono ?_
      rintro e w5 ⟨rfl, hb5⟩
      rw [decide_eq_true rfl]
      have hb05 := hb04.trans (hb5.mono hb04.size)
      clear ho4 g1 hb5 hb04
      go_wp2_with fail
      refine (awake_any w5).mono ?_
      rintro e w6 ⟨rfl, hb6⟩
      have hb06 := hb05.trans (hb6.mono hb05.size)
      have hfin : Below w.heap.size w w6 := hbo.trans (hb06.mono hbo.size)
      go_wp2
      go_ret
      exact ⟨rfl, hfin⟩
theorem walk (V : Int) (x : Nat → Nat) (U : Int) (y : Nat → Nat) (p n : Int) (w : World) (_h1 : (Lit.int .i64 p).wf = true) (_h2 : (Lit.int .i64 n).wf = true) :
    Calls Try.prog 5 #[.agg (ipCells V x), .agg (ipCells U y), .int .i64 p, .int .i64 n] w fun e w' => e = .returned (.bool true) ∧ Below w.heap.size w w' := core V U x y p n w
end Go.Proofs.Ytfnmidaiabjpbab.sumLent
