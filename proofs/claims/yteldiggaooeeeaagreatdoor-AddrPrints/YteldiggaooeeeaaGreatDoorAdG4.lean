/-
  Layer 4: addr.PrintIP, addr.PrintPrefix.
-/
import Derived.Test.YteldiggaooeeeaaGreatDoorAdG3
namespace Go.Proofs.YteldiggaooeeeaaGreatDoor
open Go.RowKit Go.Maps

theorem wpList_eql_arb {ops : Array Oper} {rest : List Oper} {o : Oper} {a : Act} {w : World} {Q : Exit → Act → World → Prop} (X Y : Operand) (ho : o.op = .binOp .eql 26 X Y 26) (x y : Nat → Nat) (hx : a.eval X = .agg (arCells x)) (hy : a.eval Y = .agg (arCells y)) (b : Bool) (hbb : same16 x y = b) (hw : Region.wanted o (yielded ops a.tmps) = true)
    (h : wpList Tryz.prog ops Q rest (a.put o.dst (.bool b)) w) : wpList Tryz.prog ops Q (o :: rest) a w := by
  refine wpList_step fun K hK => ?_
  rw [if_pos hw]
  have hrun : (execOp a.eval o).run Tryz.prog w = .ok (.value (.bool b)) w := by
    subst hbb
    obtain ⟨dst, op, type, pos, after, guard⟩ := o
    simp only at ho
    subst ho
    simp only [execOp, Sem.run_bind, Sem.run_pure, hx, hy, run_eqGuard_agg w .eql 26 _ _ _ _ Tryz.arGuard, Result.andThen_ok, run_eql_struct, eq16 x y w 9998]
  unfold Oper.wp
  rw [hrun]
  exact hK _ _ h
/-- PrintIP's answer -/
def prO (V : Int) (x : Nat → Nat) : Value := if vld V x then .tuple #[.string (txB (prIP V x)), .int .i64 0] else .tuple #[.string ⟨#[]⟩, .int .i64 40]
theorem prO_no {V : Int} {x : Nat → Nat} (h : vld V x = false) : prO V x = .tuple #[.string ⟨#[]⟩, .int .i64 40] := by unfold prO; rw [h]; rfl
theorem prO_yes {V : Int} {x : Nat → Nat} (h : vld V x = true) : prO V x = .tuple #[.string (txB (prIP V x)), .int .i64 0] := by unfold prO; rw [h]; rfl
def mpY (i : Nat) : Nat := if i = 10 ∨ i = 11 then 255 else 0
set_option maxHeartbeats 1600000 in
set_option maxRecDepth 100000 in
theorem printIP_any (V : Int) (x : Nat → Nat) (w : World) (hx : ∀ i, i < 16 → x i < 256) (hT : Gl4 w) : Calls Tryz.prog 10 #[.agg (ipCells V x)] w fun r w' => r = .returned (prO V x) ∧ Below w.heap.size w w' := by
  by_cases h4 : V = 4 ∧ vld V x = true
  · obtain ⟨rfl, hv⟩ := h4
    refine (print4_any x w hx hv hT.p).mono ?_
    rintro e w' ⟨rfl, hb⟩
    exact ⟨by rw [prO_yes hv]; rfl, hb⟩
  have HX : Hid (∀ i, i < 16 → x i < 256) := hx
  have HT : Hid (Gl4 w) := hT
  have H4 : Hid (¬ (V = 4 ∧ vld V x = true)) := h4
  obtain ⟨b, hb⟩ : ∃ b, vld V x = b := ⟨_, rfl⟩
  have HV : Hid (vld V x = b) := hb
  clear hx hT h4 hb
  have hb := ipr_new w V x
  have bel : Below w.heap.size w (w.alloc (.cells (ipCells V x) 28)) := (Below.refl _ _).alloc (Nat.le_refl _) _
  obtain ⟨CX, hC⟩ : ∃ C, C = ipCells V x := ⟨_, rfl⟩
  obtain ⟨W, hW⟩ : ∃ W_, W_ = w.alloc (.cells (ipCells V x) 28) := ⟨_, rfl⟩
  rw [← hW] at hb bel
  have HSZX : Hid (W.heap.size = w.heap.size + 1) := by show _ = _; rw [hW, World.size_alloc]
  obtain ⟨B, hB⟩ : ∃ B, B = w.heap.size := ⟨_, rfl⟩
  rw [← hB] at hb
  have HBX : Hid (IprAt W B V x) := hb
  rw [← hC] at hW ⊢
  have HOX : Hid (w.heap.size = B) := hB.symm
  have HLX : Hid (Below w.heap.size w W) := bel
  have HWX : Hid (w.alloc (.cells CX 28) = W) := hW.symm
  clear hb hW hB hC bel
  go_enter Tryz.func10, Tryz.ntmps10
  go_upto_region 1 with fail
  rw [HOX.out, HWX.out]
  go_wp2_with (refine wpList_load_ipr (.tmp 1) rfl B V x rfl HBX.out rfl ?_)
  refine (valid_any V x W HX.out).mono ?_
  rintro e w1 ⟨rfl, hb1⟩
  rw [HV.out]
  have H1 : Hid (IprAt w1 B V x ∧ Below w.heap.size w w1) := ⟨HBX.out.below hb1, HLX.out.trans (hb1.mono HLX.out.size)⟩
  clear hb1
  cases b with
  | false =>
    go_wp2
    refine bodyPost_ret (results_tmp2 rfl _ _ _) rfl ?_
    exact ⟨by rw [prO_no HV.out]; rfl, H1.out.2⟩
  | true =>
    have hn4 : V ≠ 4 := fun e => H4.out ⟨e, HV.out⟩
    obtain rfl : V = 6 := vld_six hn4 HV.out
    have k0 : w1.cell? ⟨B, 0, none⟩ = some (.int .i64 6) := H1.out.1.cell 0
    obtain ⟨m, hm⟩ : ∃ m, mpB x = m := ⟨_, rfl⟩
    have HM : Hid (mpB x = m ∧ same16 (hdA x 96) mpY = m) := ⟨hm, hm⟩
    clear hn4 hm
    go_wp2_with (refine wpList_load_ar (.tmp 13) rfl B 1 x rfl H1.out.1.ar rfl ?_)
    refine (head_any x 96 w1 (by decide) HX.out).mono ?_
    rintro e w2 ⟨rfl, hb2⟩
    have H2 : Hid (IprAt w2 B 6 x ∧ Below w.heap.size w w2) := ⟨H1.out.1.below hb2, H1.out.2.trans (hb2.mono H1.out.2.size)⟩
    clear hb2 k0
    cases m with
    | true =>
      have HPR : Hid (prIP 6 x = [58, 58, 102, 102, 102, 102, 58] ++ dots (x 12) (x 13) (x 14) (x 15)) := by show _ = _; unfold prIP; rw [if_neg (by decide), HM.out.1, if_pos rfl]
      have al : Tryz.prog.arrayLen 26 = 16 := by kernel_rfl
      go_wp2_with (refine wpList_eql_arb (.tmp 15) (.tmp 16) rfl (hdA x 96) mpY rfl rfl true HM.out.2 rfl ?_)
      refine (dotted_any' B 13 4 (fun i => x (12 + i)) w2 (fun i hi => HX.out _ (by omega)) (fun i hi => by have := H2.out.1.byte (12 + i) (by omega); rwa [show 1 + (12 + i) = 13 + i by omega] at this) (HT.out.p.below H2.out.2)).mono ?_
      rintro e w3 ⟨rfl, hb3⟩
      have H3 : Hid (Below w.heap.size w w3) := H2.out.2.trans (hb3.mono H2.out.2.size)
      clear hb3 al
      go_wp2_with (refine wpList_cat (.const (.string ⟨#[58, 58, 102, 102, 102, 102, 58]⟩)) (.tmp 20) rfl [58, 58, 102, 102, 102, 102, 58] (dots (x 12) (x 13) (x 14) (x 15)) _ _ rfl rfl rfl rfl rfl (by have := dots_hi (x 12) (x 13) (x 14) (x 15); simp; omega) ?_)
      refine bodyPost_ret (results_tmp2 rfl _ _ _) rfl ?_
      exact ⟨by rw [prO_yes HV.out, HPR.out]; rfl, H3.out⟩
    | false =>
      have HPR : Hid (prIP 6 x = prG x) := by show _ = _; unfold prIP; rw [if_neg (by decide), HM.out.1, if_neg (by decide)]
      go_wp2_with (first | (refine wpList_eql_arb (.tmp 15) (.tmp 16) rfl (hdA x 96) mpY rfl rfl false HM.out.2 rfl ?_) | (refine wpList_load_ar (.tmp 22) rfl B 1 x rfl H2.out.1.ar rfl ?_))
      refine (grouped_any x w2 HX.out (HT.out.d.below H2.out.2)).mono ?_
      rintro e w3 ⟨rfl, hb3⟩
      have H3 : Hid (Below w.heap.size w w3) := H2.out.2.trans (hb3.mono H2.out.2.size)
      clear hb3
      go_wp2
      refine bodyPost_ret (results_tmp2 rfl _ _ _) rfl ?_
      exact ⟨by rw [prO_yes HV.out, HPR.out]; rfl, H3.out⟩
/-- the text of a prefix -/
def prPF (p : PV) : List Nat := prIP p.V p.x ++ 47 :: dec3 p.n.toNat
def pfO (p : PV) : Value := if vpE p = 0 then .tuple #[.string (txB (prPF p)), .int .i64 0] else .tuple #[.string ⟨#[]⟩, .int .i64 (vpE p : Nat)]
theorem pfO_no {p : PV} (h : vpE p ≠ 0) : pfO p = .tuple #[.string ⟨#[]⟩, .int .i64 (vpE p : Nat)] := by unfold pfO; rw [if_neg h]
theorem pfO_yes {p : PV} (h : vpE p = 0) : pfO p = .tuple #[.string (txB (prPF p)), .int .i64 0] := by unfold pfO; rw [if_pos h]
theorem vp_vld {p : PV} (h : vpE p = 0) : vld p.V p.x = true := by
  have hm : mkE p.V p.x p.n = 0 := by
    unfold vpE at h
    split at h
    · assumption
    · exact h
  unfold mkE at hm
  split at hm
  · omega
  · rename_i h1; simpa using h1
theorem prIP_short (V : Int) (x : Nat → Nat) : (prIP V x).length ≤ 90 := by
  unfold prIP
  split
  · have := dots_hi (x 0) (x 1) (x 2) (x 3); omega
  · split
    · have := dots_hi (x 12) (x 13) (x 14) (x 15); simp; omega
    · by_cases h : (lzN x 8).2 - (lzN x 8).1 < 2
      · rw [prG_flat h]
        have h1 := jn_short x 0 8 (by omega)
        rw [← List.range_eq_range'] at h1
        omega
      · rw [prG_gap h]
        have h0 := lzN_at x 8 (Nat.le_refl _)
        have h1 := jn_short x 0 (lzN x 8).1 (by omega)
        have h2 := jn_short x (lzN x 8).2 (8 - (lzN x 8).2) (by omega)
        simp only [List.length_append, List.length_cons, List.length_nil]
        omega
set_option maxHeartbeats 1600000 in
set_option maxRecDepth 100000 in
theorem printPfx_any (p : PV) (w : World) (hx : ∀ i, i < 16 → p.x i < 256) (hT : Gl4 w) : Calls Tryz.prog 48 #[.agg (pfC p)] w fun r w' => r = .returned (pfO p) ∧ Below w.heap.size w w' := by
  have HX : Hid (∀ i, i < 16 → p.x i < 256) := hx
  have HT : Hid (Gl4 w) := hT
  clear hx hT
  have hb := pfx_new w p
  have bel : Below w.heap.size w (w.alloc (.cells (pfC p) 38)) := (Below.refl _ _).alloc (Nat.le_refl _) _
  obtain ⟨CX, hC⟩ : ∃ C, C = pfC p := ⟨_, rfl⟩
  obtain ⟨W, hW⟩ : ∃ W_, W_ = w.alloc (.cells (pfC p) 38) := ⟨_, rfl⟩
  rw [← hW] at hb bel
  have HSZX : Hid (W.heap.size = w.heap.size + 1) := by show _ = _; rw [hW, World.size_alloc]
  obtain ⟨B, hB⟩ : ∃ B, B = w.heap.size := ⟨_, rfl⟩
  rw [← hB] at hb
  have HBX : Hid (PfxAt W B p) := hb
  rw [← hC] at hW ⊢
  have HOX : Hid (w.heap.size = B) := hB.symm
  have HLX : Hid (Below w.heap.size w W) := bel
  have HWX : Hid (w.alloc (.cells CX 38) = W) := hW.symm
  clear hb hW hB hC bel
  go_enter Tryz.func48, Tryz.ntmps48
  go_upto_region 1 with fail
  rw [HOX.out, HWX.out]
  go_wp2_with (refine wpList_load_pfx (.tmp 1) rfl B p rfl HBX.out rfl ?_)
  refine (vpref_any p W HX.out).mono ?_
  rintro e w1 ⟨rfl, hb1⟩
  have H1 : Hid (PfxAt w1 B p ∧ Below w.heap.size w w1) := ⟨HBX.out.below hb1, HLX.out.trans (hb1.mono HLX.out.size)⟩
  clear hb1
  obtain ⟨e0, he0⟩ : ∃ e0, vpE p = e0 := ⟨_, rfl⟩
  have HE : Hid (vpE p = e0) := he0
  rw [he0]
  clear he0
  by_cases h0 : e0 = 0
  · subst h0
    obtain ⟨n, hn⟩ : ∃ n : Nat, p.n = (n : Int) ∧ n ≤ 128 := ⟨p.n.toNat, by have := vp_n HE.out; omega⟩
    have HN : Hid (p.n = (n : Int) ∧ n ≤ 128) := hn
    have k17 : w1.cell? ⟨B, 17, none⟩ = some (.int .i64 (n : Int)) := by rw [← hn.1]; exact H1.out.1.cn
    clear hn
    go_wp2_with (refine wpList_mid_ipr (.tmp 13) rfl B 0 p.V p.x rfl H1.out.1.ip rfl ?_)
    refine (printIP_any p.V p.x w1 HX.out (HT.out.below H1.out.2)).mono ?_
    rintro e w2 ⟨rfl, hb2⟩
    rw [prO_yes (vp_vld HE.out)]
    have H2 : Hid (PfxAt w2 B p ∧ Below w.heap.size w w2) := ⟨H1.out.1.below hb2, H1.out.2.trans (hb2.mono H1.out.2.size)⟩
    clear hb2 k17
    have k17 : w2.cell? ⟨B, 17, none⟩ = some (.int .i64 (n : Int)) := by rw [← HN.out.1]; exact H2.out.1.cn
    go_wp2_with (refine wpList_cat (.tmp 18) (.const (.string ⟨#[47]⟩)) rfl (prIP p.V p.x) [47] _ _ rfl rfl rfl rfl rfl (by have := prIP_short p.V p.x; simp; omega) ?_)
    refine (itoa_byte n (by have := HN.out; omega) w2 (HT.out.p.below H2.out.2)).mono ?_
    rintro e w3 ⟨rfl, hb3⟩
    have H3 : Hid (Below w.heap.size w w3) := H2.out.2.trans (hb3.mono H2.out.2.size)
    clear hb3 k17
    go_wp2_with (refine wpList_cat (.tmp 19) (.tmp 22) rfl (prIP p.V p.x ++ [47]) (dec3 n) _ _ rfl rfl rfl rfl rfl (by have := prIP_short p.V p.x; have := dec3_hi n; simp; omega) ?_)
    refine bodyPost_ret (results_tmp2 rfl _ _ _) rfl ?_
    exact ⟨by rw [pfO_yes HE.out]; unfold prPF; rw [HN.out.1]; rfl, H3.out⟩
  · have q0 : (((e0 : Nat) : Int) != 0) = true := by simp [h0]
    have HE2 : Hid (vpE p ≠ 0) := by show vpE p ≠ 0; rw [HE.out]; exact h0
    clear h0
    go_wp2
    refine bodyPost_ret (results_tmp2 rfl _ _ _) rfl ?_
    exact ⟨by rw [pfO_no HE2.out, HE.out]; rfl, H1.out.2⟩
end Go.Proofs.YteldiggaooeeeaaGreatDoor
