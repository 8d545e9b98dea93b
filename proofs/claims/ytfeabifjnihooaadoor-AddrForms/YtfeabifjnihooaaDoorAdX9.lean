/-
  Layer 4: addr.ParseIP of any text.
-/
import Derived.Test.YtfeabifjnihooaaDoorAdX8
namespace Go.Proofs.YtfeabifjnihooaaDoor
open Go.RowKit Go.Maps

def setL (C : Array Value) : Nat → List Value → Array Value
  | _, [] => C
  | o, v :: vs => setL (C.setIfInBounds o v) (o + 1) vs
theorem heap_setCells (O : Nat) (t : TypeId) : ∀ (vs : List Value) (o : Nat) (w : World) (C : Array Value), w.heap[O]? = some (.cells C t (0, 0)) → (w.setCells O o vs).heap[O]? = some (.cells (setL C o vs) t (0, 0))
  | [], _, _, _, h => by simpa [World.setCells, setL] using h
  | v :: vs, o, w, C, h => by
    have e : w.setCells O o (v :: vs) = (w.setCell ⟨O, o, none⟩ v).setCells O (o + 1) vs := rfl
    rw [e]
    exact heap_setCells O t vs (o + 1) _ _ (heap_setCell_same w O o C t v h)
theorem ch_setCells4 (w : World) (g : Nat) : ∀ (vs : List Value) (o : Nat), Ch (fun q => q = g) w (w.setCells g o vs) := by
  intro vs
  induction vs generalizing w with
  | nil => intro o; simpa [World.setCells] using Ch.refl (fun q => q = g) w
  | cons v vs ih =>
    intro o
    have e : w.setCells g o (v :: vs) = (w.setCell ⟨g, o, none⟩ v).setCells g (o + 1) vs := rfl
    rw [e]
    exact ((Ch.refl (fun q => q = g) w).set ⟨g, o, none⟩ v rfl).trans (ih _ _) (fun _ _ h => h)
theorem setL_ip (V : Int) (f g : Nat → Nat) : setL (ipCells V f) 1 (arCells g).toList = ipCells V g := by kernel_rfl
theorem wpList_store_ipA {ops : Array Oper} {rest : List Oper} {o : Oper} {a : Act} {w : World} {Q : Exit → Act → World → Prop} (x y : Operand) (ho : o.op = .store 22 x y) (hd : o.dst = none) (O : Nat) (V : Int) (f g : Nat → Nat) (hx : a.eval x = .pointer (some ⟨O, 1, none⟩)) (hy : a.eval y = .agg (arCells g)) (hb : IprAt w O V f)
    (hw : Region.wanted o (yielded ops a.tmps) = true) (hh : ∀ w', IprAt w' O V g → Ch (fun q => q = O) w w' → wpList Tryd.prog ops Q rest a w') : wpList Tryd.prog ops Q (o :: rest) a w := by
  refine wpList_step fun K hK => ?_
  rw [if_pos hw]
  refine wp_store_mid 22 x y ho O 1 (arCells g) hx hy (fun j hj => ⟨by rw [hb.byte j hj]; rfl, hb.fz _⟩) Tryd.sizeAr (by simp [arCells, Value.oneCell']) (hK _ _ ?_)
  rw [hd]
  refine hh _ ?_ (ch_setCells4 w O _ 1)
  have h := heap_setCells O 27 (arCells g).toList 1 w _ hb
  rw [setL_ip] at h
  exact h
set_option maxHeartbeats 1600000 in
set_option maxRecDepth 100000 in
theorem parseIP_long (s : ByteArray) (w : World) (hs : 45 < s.size) : Calls Tryd.prog 10 #[.string s] w fun r w' => r = .returned (ipO (pIP s)) ∧ Below w.heap.size w w' := by
  have HP : Hid (pIP s = .inr (2, 45)) := by show _ = _; unfold pIP; rw [if_pos hs]
  have q0 : decide ((45 : Int) < (s.size : Int)) = true := decide_eq_true (by omega)
  have q1 : decide (45 < s.size) = true := decide_eq_true hs
  have q2 : (45 : Int) < (s.size : Int) := by omega
  have HN : Hid (IprAt (w.alloc (.cells (ipCells 0 (fun _ => 0)) 27)) w.heap.size 0 (fun _ => 0) ∧ Below w.heap.size w (w.alloc (.cells (ipCells 0 (fun _ => 0)) 27))) := ⟨ipr_new w 0 (fun _ => 0), (Below.refl _ _).alloc (Nat.le_refl _) _⟩
  clear hs
  go_enter Tryd.func10, Tryd.ntmps10
  go_wp2_with (refine wpList_store_ipr (.tmp 2) (.tmp 11) rfl rfl w.heap.size 0 (fun _ => 0) 0 (fun _ => 0) rfl rfl HN.out.1 rfl ?_)
  intro wE hRE kE
  have HE : Hid (IprAt wE w.heap.size 0 (fun _ => 0) ∧ Below w.heap.size w wE) := ⟨hRE, HN.out.2.trans (kE.below (fun q h => by have h' : q = w.heap.size := h; omega) HN.out.2.size)⟩
  clear hRE kE
  go_wp2
  (try simp only [Exit.inBlock, Exit.then])
  refine bodyPost_ret (results_ipr_tmp2 rfl _ _ w.heap.size 0 _ rfl HE.out.1) rfl ?_
  exact ⟨by rw [HP.out]; rfl, HE.out.2⟩
set_option maxHeartbeats 1600000 in
set_option maxRecDepth 100000 in
theorem parse6_any (s : ByteArray) (w : World) (hs : s.size ≤ 45) (h4 : hsB s 58 = true) : Calls Tryd.prog 10 #[.string s] w fun r w' => r = .returned (ipO (pIP s)) ∧ Below w.heap.size w w' := by
  have HS : Hid (s.size ≤ 45) := hs
  have H4 : Hid (hsB s 58 = true) := h4
  have q0 : decide ((45 : Int) < (s.size : Int)) = false := decide_eq_false (by omega)
  have q1 : decide (45 < s.size) = false := decide_eq_false (by omega)
  clear hs h4
  obtain ⟨W, hW⟩ : ∃ W_, W_ = wl3 w s := ⟨_, rfl⟩
  obtain ⟨B, hB⟩ : ∃ B, B = w.heap.size := ⟨_, rfl⟩
  have HIP : Hid (IprAt W B 0 (fun _ => 0) ∧ RdAt W (B + 1) s 0 ∧ IprAt W (B + 1 + 1) 0 (fun _ => 0) ∧ Below w.heap.size w W) := by rw [hW, hB]; exact wl3_at w s
  have HBW : Hid (w.heap.size = B) := hB.symm
  have HW : Hid ((((w.alloc (.cells #[.int .i64 0, .int .u8 0, .int .u8 0, .int .u8 0, .int .u8 0, .int .u8 0, .int .u8 0, .int .u8 0, .int .u8 0, .int .u8 0, .int .u8 0, .int .u8 0, .int .u8 0, .int .u8 0, .int .u8 0, .int .u8 0, .int .u8 0] 27)).alloc (.cells #[.string s, .int .i64 0] 58)).alloc (.cells #[.int .i64 0, .int .u8 0, .int .u8 0, .int .u8 0, .int .u8 0, .int .u8 0, .int .u8 0, .int .u8 0, .int .u8 0, .int .u8 0, .int .u8 0, .int .u8 0, .int .u8 0, .int .u8 0, .int .u8 0, .int .u8 0, .int .u8 0] 27)) = W) := hW.symm
  clear hW hB
  go_enter Tryd.func10, Tryd.ntmps10
  go_wp2_with fail
  rw [HBW.out, HW.out]
  refine (con_any s 58 W).mono ?_
  rintro e W ⟨rfl, rfl⟩
  rw [idx_hs, H4.out]
  have k0 : W.cell? ⟨B + 1 + 1, 0, none⟩ = some (.int .i64 0) := HIP.out.2.2.1.cell 0
  have f0 : W.frozen? ⟨B + 1 + 1, 0, none⟩ = false := HIP.out.2.2.1.fz 0
  obtain ⟨W1, hW1⟩ : ∃ W1, W1 = W.setCell ⟨B + 1 + 1, 0, none⟩ (.int .i64 6) := ⟨_, rfl⟩
  have H1 : Hid (IprAt W1 B 0 (fun _ => 0) ∧ RdAt W1 (B + 1) s 0 ∧ IprAt W1 (B + 1 + 1) 6 (fun _ => 0) ∧ Below w.heap.size w W1) := by
    have c1 : Ch (fun k => k = B + 1 + 1) W W1 := by rw [hW1]; exact (Ch.refl _ _).set _ _ rfl
    refine ⟨HIP.out.1.ch c1 (by omega), HIP.out.2.1.ch c1 (by omega), ?_, HIP.out.2.2.2.trans (c1.below (fun q h => by have := HBW.out; omega) HIP.out.2.2.2.size)⟩
    rw [hW1]
    have h0 := HIP.out.2.2.1
    unfold IprAt at h0 ⊢
    rw [heap_setCell_same W (B + 1 + 1) 0 _ _ _ h0]
    rfl
  have HW1 : Hid (W.setCell ⟨B + 1 + 1, 0, none⟩ (.int .i64 6) = W1) := hW1.symm
  clear hW1
  go_wp2_with fail
  rw [HW1.out]
  refine (six_any (B + 1) s W1 H1.out.2.1 (by have := HS.out; omega)).mono ?_
  rintro e w1 ⟨hf, hch⟩
  have H5 : Hid (IprAt w1 B 0 (fun _ => 0) ∧ IprAt w1 (B + 1 + 1) 6 (fun _ => 0) ∧ Below w.heap.size w w1) := ⟨H1.out.1.ch hch (by omega), H1.out.2.2.1.ch hch (by omega), H1.out.2.2.2.trans (hch.below (fun q h => by have := HBW.out; omega) H1.out.2.2.2.size)⟩
  clear hch k0 f0
  have hpi := pIP_six HS.out H4.out
  cases hd : sxR (sxL s) s.size with
  | inr er =>
    rw [hd] at hf hpi
    obtain ⟨rfl, hrd⟩ := hf
    obtain ⟨e1, e2⟩ := er
    have hne : e1 ≠ 0 := by
      unfold sxR at hd
      split at hd
      · rename_i hq
        injection hd with hd
        injection hd with h1 h2
        rw [← h1]
        exact hq
      · split at hd
        · injection hd with hd
          injection hd with h1 h2
          omega
        · cases hd
    have HP : Hid (pIP s = .inr (e1, e2)) := hpi
    have q2 : (((e1 : Nat) : Int) != 0) = true := by simp; omega
    have HRD0 : Hid (RdAt w1 (B + 1) s e2) := hrd
    clear hd hne hrd hpi
    go_wp2_with (refine wpList_store_ipA (.tmp 22) (.tmp 20) rfl rfl (B + 1 + 1) 6 (fun _ => 0) (fun _ => 0) rfl rfl H5.out.2.1 rfl ?_)
    intro w2 hRE kE
    have H2 : Hid (IprAt w2 B 0 (fun _ => 0) ∧ Below w.heap.size w w2) := ⟨H5.out.1.ch kE (by omega), H5.out.2.2.trans (kE.below (fun q h => by have h' : q = B + 1 + 1 := h; have := HBW.out; omega) H5.out.2.2.size)⟩
    have HRD : Hid (RdAt w2 (B + 1) s e2) := HRD0.out.ch kE (by omega)
    clear hRE kE
    go_wp2_with fail
    refine MixH.start (fun A => IprAt A B 0 (fun _ => 0) ∧ RdAt A (B + 1) s e2 ∧ Below w.heap.size w A) (by kernel_rfl) ?_
    obtain ⟨wA, hwA⟩ : ∃ W_, W_ = w2.drew := ⟨_, rfl⟩
    have bdr : Below w2.heap.size w2 wA := by rw [hwA]; exact (Below.refl _ _).drew
    have hS : IprAt wA B 0 (fun _ => 0) ∧ RdAt wA (B + 1) s e2 ∧ Below w.heap.size w wA := ⟨H2.out.1.below bdr, HRD.out.below bdr, H2.out.2.trans (bdr.mono H2.out.2.size)⟩
    rw [← hwA]
    clear hwA bdr
    refine MixH.takes [true, true, true] 4 (by kernel_rfl) (by kernel_rfl) (by decide) (by kernel_rfl) hS (fun K hK => ?_)
    simp only [Mix.pick]
    repeat (go_big_quiet_step (fail))
    refine wpQuiet_nil (hK _ ?_)
    clear hK K
    refine MixH.take 3 3 _ (.int .i64 (e2 : Nat)) rfl (by kernel_rfl) (by kernel_rfl) (by kernel_rfl) (by kernel_rfl) (yields_int (.tmp 31) rfl ⟨B + 1, 1, none⟩ (.int .i64 (e2 : Nat)) rfl rfl (fun A hA => hA.2.1.c1)) hS (fun a' ha => ?_)
    simp only [Act.put, List.setIfInBounds_toArray, List.set_cons_succ, List.set_cons_zero] at ha
    subst ha
    refine MixH.one [false, false, false, false, true] 2 4 _ rfl rfl (by kernel_rfl) (by kernel_rfl) (fun K hK => ?_)
    simp only [Mix.pick]
    go_wp2_with (refine wpList_store_ipr (.tmp 2) (.tmp 29) rfl rfl B 0 (fun _ => 0) 0 (fun _ => 0) rfl rfl hS.1 rfl ?_)
    intro wE hRE kE
    have hS : IprAt wE B 0 (fun _ => 0) ∧ RdAt wE (B + 1) s e2 ∧ Below w.heap.size w wE := ⟨hRE, hS.2.1.ch kE (by omega), hS.2.2.trans (kE.below (fun q h => by have h' : q = B := h; have := HBW.out; omega) hS.2.2.size)⟩
    clear hRE kE
    go_wp2_with fail
    refine ⟨rfl, hK _ _ hS ?_⟩
    clear hK K
    refine MixH.takes [false, false, false, false, false, true, true] 0 (by kernel_rfl) (by kernel_rfl) (by decide) (by kernel_rfl) hS (fun K hK => ?_)
    simp only [Mix.pick]
    repeat (go_big_quiet_step (fail))
    refine wpQuiet_nil (hK _ ?_)
    clear hK K
    refine MixH.done (by kernel_rfl) ?_
    have HS2 : Hid (IprAt wE B 0 (fun _ => 0) ∧ RdAt wE (B + 1) s e2 ∧ Below w.heap.size w wE) := hS
    clear hS
    go_wp2
    (try simp only [Exit.inBlock, Exit.then])
    refine bodyPost_ret (results_ipr_tmp2 rfl _ _ B 0 _ rfl HS2.out.1) rfl ?_
    exact ⟨by rw [HP.out]; rfl, HS2.out.2.2⟩
  | inl x =>
    rw [hd] at hf hpi
    obtain rfl := hf
    have HP : Hid (pIP s = .inl (6, x)) := hpi
    clear hd hpi
    go_wp2_with (refine wpList_store_ipA (.tmp 22) (.tmp 20) rfl rfl (B + 1 + 1) 6 (fun _ => 0) x rfl rfl H5.out.2.1 rfl ?_)
    intro w2 hRE kE
    have H2 : Hid (IprAt w2 B 0 (fun _ => 0) ∧ IprAt w2 (B + 1 + 1) 6 x ∧ Below w.heap.size w w2) := ⟨H5.out.1.ch kE (by omega), hRE, H5.out.2.2.trans (kE.below (fun q h => by have h' : q = B + 1 + 1 := h; have := HBW.out; omega) H5.out.2.2.size)⟩
    clear hRE kE
    go_wp2_with (first | (refine wpList_load_ipr (.tmp 6) rfl (B + 1 + 1) 6 x rfl H2.out.2.1 rfl ?_) | (refine wpList_store_ipr (.tmp 2) (.tmp 33) rfl rfl B 0 (fun _ => 0) 6 x rfl rfl H2.out.1 rfl ?_))
    intro wE hRE kE
    have HE : Hid (IprAt wE B 6 x ∧ Below w.heap.size w wE) := ⟨hRE, H2.out.2.2.trans (kE.below (fun q h => by have h' : q = B := h; have := HBW.out; omega) H2.out.2.2.size)⟩
    clear hRE kE
    go_wp2
    (try simp only [Exit.inBlock, Exit.then])
    refine bodyPost_ret (results_ipr_tmp2 rfl _ _ B 6 _ rfl HE.out.1) rfl ?_
    exact ⟨by rw [HP.out]; rfl, HE.out.2⟩
theorem parseIP_any (s : ByteArray) (w : World) : Calls Tryd.prog 10 #[.string s] w fun r w' => r = .returned (ipO (pIP s)) ∧ Below w.heap.size w w' := by
  by_cases h1 : s.size ≤ 45
  · cases h2 : hsB s 58 with
    | true => exact parse6_any s w h1 h2
    | false => exact parse4_any s w h1 h2
  · exact parseIP_long s w (by omega)
end Go.Proofs.YtfeabifjnihooaaDoor
