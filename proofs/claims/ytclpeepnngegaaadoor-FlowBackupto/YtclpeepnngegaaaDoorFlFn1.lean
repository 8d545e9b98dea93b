/-
  Layer 17: Reverse, within, isTuple, isEcho, check.
-/
import Derived.Test.YtclpeepnngegaaaDoorFlTa
import Derived.Deep.CutBlock
import Derived.Deep.DeepCutAuto
namespace Go.Proofs.YtclpeepnngegaaaDoor
open Go.RowKit Go.Maps

theorem TupAt.set {w : World} {O : Nat} {x x' : TU} (h : TupAt w O x) (i : Nat) (v : Value) (hC : (tuC x).setIfInBounds i v = tuC x') : TupAt (w.setCell ⟨O, i, none⟩ v) O x' := by
  unfold TupAt at h ⊢
  rw [heap_setCell_same w O i _ _ v h, hC]
theorem FloAt.set {w : World} {O : Nat} {x x' : FN} (h : FloAt w O x) (i : Nat) (v : Value) (hC : (flC x).setIfInBounds i v = flC x') : FloAt (w.setCell ⟨O, i, none⟩ v) O x' := by
  unfold FloAt at h ⊢
  rw [heap_setCell_same w O i _ _ v h, hC]
theorem set_sp (x : TU) (n : Int) : (tuC x).setIfInBounds 35 (.int .i64 n) = tuC { x with sp := n } := by
  simp only [tuC, List.setIfInBounds_toArray, List.set_cons_succ, List.set_cons_zero]
theorem set_dp (x : TU) (n : Int) : (tuC x).setIfInBounds 36 (.int .i64 n) = tuC { x with dp := n } := by
  simp only [tuC, List.setIfInBounds_toArray, List.set_cons_succ, List.set_cons_zero]
theorem TupAt.c0 {w : World} {O : Nat} {x : TU} (h : TupAt w O x) : w.cell? ⟨O, 0, none⟩ = some (.int .i64 x.pr) := h.cell 0
theorem TupAt.c1 {w : World} {O : Nat} {x : TU} (h : TupAt w O x) : w.cell? ⟨O, 1, none⟩ = some (.int .i64 x.sV) := h.cell 1
theorem TupAt.c18 {w : World} {O : Nat} {x : TU} (h : TupAt w O x) : w.cell? ⟨O, 18, none⟩ = some (.int .i64 x.dV) := h.cell 18
theorem TupAt.c35 {w : World} {O : Nat} {x : TU} (h : TupAt w O x) : w.cell? ⟨O, 35, none⟩ = some (.int .i64 x.sp) := h.cell 35
theorem TupAt.c36 {w : World} {O : Nat} {x : TU} (h : TupAt w O x) : w.cell? ⟨O, 36, none⟩ = some (.int .i64 x.dp) := h.cell 36
theorem FloAt.c0 {w : World} {O : Nat} {x : FN} (h : FloAt w O x) : w.cell? ⟨O, 0, none⟩ = some (.int .i64 x.x.pr) := h.cell 0
theorem FloAt.c1 {w : World} {O : Nat} {x : FN} (h : FloAt w O x) : w.cell? ⟨O, 1, none⟩ = some (.int .i64 x.x.sV) := h.cell 1
theorem FloAt.c37 {w : World} {O : Nat} {x : FN} (h : FloAt w O x) : w.cell? ⟨O, 37, none⟩ = some (.int .i64 x.po) := h.cell 37
theorem FloAt.c38 {w : World} {O : Nat} {x : FN} (h : FloAt w O x) : w.cell? ⟨O, 38, none⟩ = some (.int .i64 x.st) := h.cell 38
theorem FloAt.c39 {w : World} {O : Nat} {x : FN} (h : FloAt w O x) : w.cell? ⟨O, 39, none⟩ = some (.int .i64 x.le) := h.cell 39
theorem set_po (x : FN) (n : Int) : (flC x).setIfInBounds 37 (.int .i64 n) = flC { x with po := n } := by
  simp only [flC, List.setIfInBounds_toArray, List.set_cons_succ, List.set_cons_zero]
theorem set_st (x : FN) (n : Int) : (flC x).setIfInBounds 38 (.int .i64 n) = flC { x with st := n } := by
  simp only [flC, List.setIfInBounds_toArray, List.set_cons_succ, List.set_cons_zero]
theorem set_le (x : FN) (n : Int) : (flC x).setIfInBounds 39 (.int .i64 n) = flC { x with le := n } := by
  simp only [flC, List.setIfInBounds_toArray, List.set_cons_succ, List.set_cons_zero]
set_option maxHeartbeats 1600000 in
set_option maxRecDepth 100000 in
theorem reverse_any (x : TU) (w : World) : Calls Tryd.prog 13 #[.agg (tuC x)] w fun r w' => r = .returned (.agg (tuC x.rev)) ∧ Below w.heap.size w w' := by
  have hb := tup_new w x
  have bel : Below w.heap.size w (w.alloc (.cells (tuC x) 34)) := (Below.refl _ _).alloc (Nat.le_refl _) _
  obtain ⟨CX, hC⟩ : ∃ C, C = tuC x := ⟨_, rfl⟩
  obtain ⟨W, hW⟩ : ∃ W, W = w.alloc (.cells (tuC x) 34) := ⟨_, rfl⟩
  rw [← hW] at hb bel
  have HSZX : Hid (W.heap.size = w.heap.size + 1) := by show _ = _; rw [hW, World.size_alloc]
  obtain ⟨B, hB⟩ : ∃ B, B = w.heap.size := ⟨_, rfl⟩
  rw [← hB] at hb
  have HBX : Hid (TupAt W B x) := hb
  rw [← hC] at hW ⊢
  have HOX : Hid (w.heap.size = B) := hB.symm
  have HLX : Hid (Below w.heap.size w W) := bel
  have HWX : Hid (w.alloc (.cells CX 34) = W) := hW.symm
  clear hb hW hB hC bel
  obtain ⟨Y, hY⟩ : ∃ Y, Y = W.alloc (.cells (tuC xz) 34) := ⟨_, rfl⟩
  have bY : Below W.heap.size W Y := by rw [hY]; exact (Below.refl _ _).alloc (Nat.le_refl _) _
  obtain ⟨O, hO⟩ : ∃ O, O = W.heap.size := ⟨_, rfl⟩
  have HNY : Hid (TupAt Y O xz) := by show TupAt Y O xz; rw [hY, hO]; exact tup_new W xz
  have HLY : Hid (Below W.heap.size W Y) := bY
  have HEY : Hid (W.alloc (.cells (tuC xz) 34) = Y) := hY.symm
  have HOY : Hid (W.heap.size = O) := hO.symm
  clear hY bY hO
  have HX1 : Hid (TupAt Y B x) := HBX.out.below HLY.out
  have HBO : Hid (B < O) := by have h1 := HSZX.out; have h2 := HOY.out; have h3 := HOX.out; show B < O; omega
  go_enter Tryd.func13, Tryd.ntmps13
  go_wp2_with (first | (rw [HOX.out, HWX.out]; refine wpList_alloc_tup rfl rfl ?_; rw [HEY.out, HOY.out]) | (refine wpList_mid_ipr (.tmp 3) rfl B 18 x.dV x.d rfl HX1.out.dst rfl ?_) | (refine wpList_mid_ipr (.tmp 5) rfl B 1 x.sV x.s rfl HX1.out.src rfl ?_) | (refine wpList_set_src (.tmp 7) (.tmp 4) rfl rfl B x x.dV x.d rfl rfl HX1.out rfl ?_))
  intro w2 h2 k2
  have H2 : Hid (TupAt w2 B { x with sV := x.dV, s := x.d } ∧ Ch (fun q => q = B) Y w2) := ⟨h2, k2⟩
  clear h2 k2
  go_wp2_with (first | (refine wpList_set_dst (.tmp 8) (.tmp 6) rfl rfl B _ x.sV x.s rfl rfl H2.out.1 rfl ?_))
  intro w3 h3 k3
  have H3 : Hid (TupAt w3 B ⟨x.pr, x.dV, x.d, x.sV, x.s, x.sp, x.dp⟩ ∧ Ch (fun q => q = B) Y w3) := ⟨h3, H2.out.2.trans k3 (fun _ _ h => h)⟩
  have c35 := H3.out.1.c35
  have c36 := H3.out.1.c36
  have f35 := H3.out.1.fz 35
  have f36 := H3.out.1.fz 36
  simp only at c35 c36
  clear h3 k3 H2
  go_upto_region 3 with fail
  obtain ⟨w4, hw4⟩ : ∃ w4, w4 = (w3.setCell ⟨B, 35, none⟩ (.int .i64 x.dp)).setCell ⟨B, 36, none⟩ (.int .i64 x.sp) := ⟨_, rfl⟩
  rw [← hw4]
  have H4 : Hid (TupAt w4 B x.rev ∧ Ch (fun q => q = B) Y w4) := by
    rw [hw4]
    exact ⟨TupAt.set (TupAt.set H3.out.1 35 (.int .i64 x.dp) (set_sp _ _)) 36 (.int .i64 x.sp) (set_dp _ _), (H3.out.2.set _ _ rfl).set _ _ rfl⟩
  clear hw4 c35 c36 f35 f36 H3
  have HO4 : Hid (TupAt w4 O xz) := HNY.out.ch H4.out.2 (fun q => by have := HBO.out; have q' : O = B := q; omega)
  go_wp2_with (first | (refine wpList_load_tup (.tmp 1) rfl B x.rev rfl H4.out.1 rfl ?_) | (refine wpList_store_tup (.tmp 2) (.tmp 15) rfl rfl O xz x.rev rfl rfl HO4.out rfl ?_))
  intro w5 h5 k5
  go_wp2_with fail
  refine bodyPost_ret (results_tup rfl _ _ O _ rfl h5) rfl ?_
  have k6 := H4.out.2.mono (T := fun q => q = B ∨ q = O) (fun _ _ h => .inl h)
  have k7 : Ch (fun q => q = B ∨ q = O) Y w5 := k6.trans k5 (fun _ _ h => .inr h)
  have b1 := bthen HLX.out HLY.out
  refine ⟨rfl, b1.trans (k7.below (fun q hq => by have h1 := HOX.out; have h2 := HBO.out; rcases hq with rfl | rfl <;> omega) b1.size)⟩
def inR (n lo hi : Int) : Bool := decide (lo ≤ n) && decide (n ≤ hi)
set_option maxHeartbeats 1600000 in
set_option maxRecDepth 100000 in
theorem within_any (n lo hi : Int) (w : World) : Calls Tryd.prog 42 #[.int .i64 n, .int .i64 lo, .int .i64 hi] w fun r w' => r = .returned (.bool (inR n lo hi)) ∧ w = w' := by
  go_enter Tryd.func42, Tryd.ntmps42
  by_cases h1 : lo ≤ n
  · have q1 : decide (lo ≤ n) = true := decide_eq_true h1
    go_wp2
    go_ret
    exact ⟨by simp [inR, q1], rfl⟩
  · have q1 : decide (lo ≤ n) = false := decide_eq_false h1
    go_wp2
    go_ret
    exact ⟨by simp [inR, q1], rfl⟩
/-- a tuple, of whatever protocol -/
def tpB (x : TU) : Bool := vld x.sV x.s && vld x.dV x.d && x.sV == x.dV && inR x.sp 0 65535 && inR x.dp 0 65535
set_option maxHeartbeats 1600000 in
set_option maxRecDepth 100000 in
theorem isTuple_any (x : TU) (w : World) (hx : x.Wf) : Calls Tryd.prog 37 #[.agg (tuC x)] w fun r w' => r = .returned (.bool (tpB x)) ∧ Below w.heap.size w w' := by
  have HX : Hid x.Wf := hx
  clear hx
  have hb := tup_new w x
  have bel : Below w.heap.size w (w.alloc (.cells (tuC x) 34)) := (Below.refl _ _).alloc (Nat.le_refl _) _
  obtain ⟨CX, hC⟩ : ∃ C, C = tuC x := ⟨_, rfl⟩
  obtain ⟨W, hW⟩ : ∃ W, W = w.alloc (.cells (tuC x) 34) := ⟨_, rfl⟩
  rw [← hW] at hb bel
  have HSZX : Hid (W.heap.size = w.heap.size + 1) := by show _ = _; rw [hW, World.size_alloc]
  obtain ⟨B, hB⟩ : ∃ B, B = w.heap.size := ⟨_, rfl⟩
  rw [← hB] at hb
  have HBX : Hid (TupAt W B x) := hb
  rw [← hC] at hW ⊢
  have HOX : Hid (w.heap.size = B) := hB.symm
  have HLX : Hid (Below w.heap.size w W) := bel
  have HWX : Hid (w.alloc (.cells CX 34) = W) := hW.symm
  clear hb hW hB hC bel
  have Q1 : Hid _ := valid_any x.sV x.s W HX.out.s
  obtain ⟨b1, hb1⟩ : ∃ b, vld x.sV x.s = b := ⟨_, rfl⟩
  obtain ⟨b2, hb2⟩ : ∃ b, vld x.dV x.d = b := ⟨_, rfl⟩
  obtain ⟨b3, hb3⟩ : ∃ b, (x.sV == x.dV) = b := ⟨_, rfl⟩
  obtain ⟨b4, hb4⟩ : ∃ b, inR x.sp 0 65535 = b := ⟨_, rfl⟩
  obtain ⟨b5, hb5⟩ : ∃ b, inR x.dp 0 65535 = b := ⟨_, rfl⟩
  rw [hb1] at Q1
  have HT : Hid (tpB x = (b1 && b2 && b3 && b4 && b5)) := by show _ = _; unfold tpB; rw [hb1, hb2, hb3, hb4, hb5]
  have HB2 : Hid (vld x.dV x.d = b2) := hb2
  have HB4 : Hid (inR x.sp 0 65535 = b4 ∧ inR x.dp 0 65535 = b5) := ⟨hb4, hb5⟩
  clear hb1 hb2 hb4 hb5
  go_enter Tryd.func37, Tryd.ntmps37
  go_upto_region 1 with fail
  rw [HOX.out, HWX.out]
  go_wp2_with (first | (refine wpList_mid_ipr (.tmp 3) rfl B 1 x.sV x.s rfl HBX.out.src rfl ?_))
  refine Calls.mono Q1.out ?_
  rintro e w1 ⟨rfl, c1⟩
  have H1 : Hid (TupAt w1 B x ∧ Below w.heap.size w w1) := ⟨HBX.out.below c1, bthen HLX.out c1⟩
  clear c1 Q1
  cases b1 with
  | false =>
    go_wp2_with fail
    go_ret
    exact ⟨by rw [HT.out]; rfl, H1.out.2⟩
  | true =>
    have Q2 : Hid _ := valid_any x.dV x.d w1 HX.out.d
    rw [HB2.out] at Q2
    go_wp2_with (first | (refine wpList_mid_ipr (.tmp 7) rfl B 18 x.dV x.d rfl H1.out.1.dst rfl ?_))
    refine Calls.mono Q2.out ?_
    rintro e w2 ⟨rfl, c2⟩
    have H2 : Hid (TupAt w2 B x ∧ Below w.heap.size w w2) := ⟨H1.out.1.below c2, bthen H1.out.2 c2⟩
    clear c2 Q2 H1
    cases b2 with
    | false =>
      go_wp2_with fail
      go_ret
      exact ⟨by rw [HT.out]; rfl, H2.out.2⟩
    | true =>
      have d1 := H2.out.1.c1
      have d2 := H2.out.1.c18
      have d3 := H2.out.1.c35
      have d4 := H2.out.1.c36
      have Q4 : Hid _ := within_any x.sp 0 65535 w2
      have Q5 : Hid _ := within_any x.dp 0 65535 w2
      rw [HB4.out.1] at Q4
      rw [HB4.out.2] at Q5
      cases b3 with
      | false =>
        go_wp2_with fail
        go_ret
        exact ⟨by rw [HT.out]; rfl, H2.out.2⟩
      | true =>
        go_wp2_with fail
        refine Calls.mono Q4.out ?_
        rintro e w3 ⟨rfl, rfl⟩
        cases b4 with
        | false =>
          go_wp2_with fail
          go_ret
          exact ⟨by rw [HT.out]; rfl, H2.out.2⟩
        | true =>
          go_wp2_with fail
          refine Calls.mono Q5.out ?_
          rintro e w3 ⟨rfl, rfl⟩
          go_wp2_with fail
          go_ret
          exact ⟨by rw [HT.out]; rfl, H2.out.2⟩
/-- an echo of its version -/
def ecB (x : TU) : Bool := (x.pr == 1 && x.sV == 4) || (x.pr == 58 && x.sV == 6)
set_option maxHeartbeats 1600000 in
set_option maxRecDepth 100000 in
theorem isEcho_any (x : TU) (w : World) : Calls Tryd.prog 38 #[.agg (tuC x)] w fun r w' => r = .returned (.bool (ecB x)) ∧ Below w.heap.size w w' := by
  have hb := tup_new w x
  have bel : Below w.heap.size w (w.alloc (.cells (tuC x) 34)) := (Below.refl _ _).alloc (Nat.le_refl _) _
  obtain ⟨CX, hC⟩ : ∃ C, C = tuC x := ⟨_, rfl⟩
  obtain ⟨W, hW⟩ : ∃ W, W = w.alloc (.cells (tuC x) 34) := ⟨_, rfl⟩
  rw [← hW] at hb bel
  have HSZX : Hid (W.heap.size = w.heap.size + 1) := by show _ = _; rw [hW, World.size_alloc]
  obtain ⟨B, hB⟩ : ∃ B, B = w.heap.size := ⟨_, rfl⟩
  rw [← hB] at hb
  have HBX : Hid (TupAt W B x) := hb
  rw [← hC] at hW ⊢
  have HOX : Hid (w.heap.size = B) := hB.symm
  have HLX : Hid (Below w.heap.size w W) := bel
  have HWX : Hid (w.alloc (.cells CX 34) = W) := hW.symm
  clear hb hW hB hC bel
  have d0 := HBX.out.c0
  have d1 := HBX.out.c1
  obtain ⟨b1, hb1⟩ : ∃ b, (x.pr == 1) = b := ⟨_, rfl⟩
  obtain ⟨b2, hb2⟩ : ∃ b, (x.sV == 4) = b := ⟨_, rfl⟩
  obtain ⟨b3, hb3⟩ : ∃ b, (x.pr == 58) = b := ⟨_, rfl⟩
  obtain ⟨b4, hb4⟩ : ∃ b, (x.sV == 6) = b := ⟨_, rfl⟩
  have HT : Hid (ecB x = ((b1 && b2) || (b3 && b4))) := by show _ = _; unfold ecB; rw [hb1, hb2, hb3, hb4]
  go_enter Tryd.func38, Tryd.ntmps38
  go_upto_region 1 with fail
  rw [HOX.out, HWX.out]
  cases b1 <;> cases b2 <;> cases b3 <;> (go_wp2_with fail; go_ret; exact ⟨by rw [HT.out]; simp, HLX.out⟩)
/-- may packets of that tuple be tracked at all? -/
def ckE (x : TU) : Int := if tpB x then (if !(x.pr == 6) && !(x.pr == 17) && !(ecB x) then 174 else 0) else 170
set_option maxHeartbeats 1600000 in
set_option maxRecDepth 100000 in
theorem check_any (x : TU) (w : World) (hx : x.Wf) : Calls Tryd.prog 24 #[.agg (tuC x)] w fun r w' => r = .returned (.int .i64 (ckE x)) ∧ Below w.heap.size w w' := by
  have HX : Hid x.Wf := hx
  clear hx
  have hb := tup_new w x
  have bel : Below w.heap.size w (w.alloc (.cells (tuC x) 34)) := (Below.refl _ _).alloc (Nat.le_refl _) _
  obtain ⟨CX, hC⟩ : ∃ C, C = tuC x := ⟨_, rfl⟩
  obtain ⟨W, hW⟩ : ∃ W, W = w.alloc (.cells (tuC x) 34) := ⟨_, rfl⟩
  rw [← hW] at hb bel
  have HSZX : Hid (W.heap.size = w.heap.size + 1) := by show _ = _; rw [hW, World.size_alloc]
  obtain ⟨B, hB⟩ : ∃ B, B = w.heap.size := ⟨_, rfl⟩
  rw [← hB] at hb
  have HBX : Hid (TupAt W B x) := hb
  rw [← hC] at hW ⊢
  have HOX : Hid (w.heap.size = B) := hB.symm
  have HLX : Hid (Below w.heap.size w W) := bel
  have HWX : Hid (w.alloc (.cells CX 34) = W) := hW.symm
  clear hb hW hB hC bel
  have Q1 : Hid _ := isTuple_any x W HX.out
  obtain ⟨b1, hb1⟩ : ∃ b, tpB x = b := ⟨_, rfl⟩
  obtain ⟨b2, hb2⟩ : ∃ b, (x.pr == 6) = b := ⟨_, rfl⟩
  obtain ⟨b3, hb3⟩ : ∃ b, (x.pr == 17) = b := ⟨_, rfl⟩
  obtain ⟨b4, hb4⟩ : ∃ b, ecB x = b := ⟨_, rfl⟩
  have HT : Hid (ckE x = if b1 then (if !b2 && !b3 && !b4 then 174 else 0) else 170) := by show _ = _; unfold ckE; rw [hb1, hb2, hb3, hb4]
  rw [hb1] at Q1
  have HB4 : Hid (ecB x = b4) := hb4
  have q2 : (x.pr != 6) = !b2 := by rw [← hb2]; rfl
  have q3 : (x.pr != 17) = !b3 := by rw [← hb3]; rfl
  clear hb1 hb4 hb2 hb3
  go_enter Tryd.func24, Tryd.ntmps24
  go_upto_region 1 with fail
  rw [HOX.out, HWX.out]
  go_wp2_with (first | (refine wpList_load_tup (.tmp 1) rfl B x rfl HBX.out rfl ?_))
  refine Calls.mono Q1.out ?_
  rintro e w1 ⟨rfl, c1⟩
  have H1 : Hid (TupAt w1 B x ∧ Below w.heap.size w w1) := ⟨HBX.out.below c1, bthen HLX.out c1⟩
  have d0 := H1.out.1.c0
  clear c1 Q1
  cases b1 with
  | false =>
    go_wp2_with fail
    go_ret
    exact ⟨by rw [HT.out]; rfl, H1.out.2⟩
  | true =>
    cases b2 with
    | true =>
      go_wp2_with fail
      go_ret
      exact ⟨by rw [HT.out]; rfl, H1.out.2⟩
    | false =>
      cases b3 with
      | true =>
        go_wp2_with fail
        go_ret
        exact ⟨by rw [HT.out]; rfl, H1.out.2⟩
      | false =>
        have Q2 : Hid _ := isEcho_any x w1
        rw [HB4.out] at Q2
        go_wp2_with (first | (refine wpList_load_tup (.tmp 1) rfl B x rfl H1.out.1 rfl ?_))
        refine Calls.mono Q2.out ?_
        rintro e w2 ⟨rfl, c2⟩
        have H2 : Hid (Below w.heap.size w w2) := bthen H1.out.2 c2
        clear c2 Q2
        cases b4 with
        | false =>
          go_wp2_with fail
          go_ret
          exact ⟨by rw [HT.out]; rfl, H2.out⟩
        | true =>
          go_wp2_with fail
          go_ret
          exact ⟨by rw [HT.out]; rfl, H2.out⟩
end Go.Proofs.YtclpeepnngegaaaDoor
