/-
  Layer 4: addr.ParsePrefix.
-/
import Derived.Test.YtfeabifjnihooaaDoorAdY1
namespace Go.Proofs.YtfeabifjnihooaaDoor
open Go.RowKit Go.Maps

theorem run_bpf4 (V : Int) (x : Nat → Nat) (n : Int) (w : World) : (Instr.build 37 #[(0, .agg (ipCells V x)), (1, .int .i64 n)]).run Tryd.prog w = .ok (.agg (pfC ⟨V, x, n⟩)) w := by kernel_rfl
theorem wpList_bpf4 {ops : Array Oper} {rest : List Oper} {o : Oper} {a_ : Act} {w : World} {Q : Exit → Act → World → Prop} (y0 y1 : Operand) (ho : o.op = .build 37 #[(0, y0), (1, y1)]) (V : Int) (x : Nat → Nat) (n : Int) (h0 : a_.eval y0 = .agg (ipCells V x)) (h1 : a_.eval y1 = .int .i64 n) (hw : Region.wanted o (yielded ops a_.tmps) = true)
    (h : wpList Tryd.prog ops Q rest (a_.put o.dst (.agg (pfC ⟨V, x, n⟩))) w) : wpList Tryd.prog ops Q (o :: rest) a_ w := by
  refine wpList_step fun K hK => ?_
  rw [if_pos hw]
  have hrun : (execOp a_.eval o).run Tryd.prog w = .ok (.value (.agg (pfC ⟨V, x, n⟩))) w := by
    obtain ⟨dst, op, type, pos, after, guard⟩ := o
    simp only at ho
    subst ho
    simp only [execOp, Sem.run_bind, List.map_toArray, List.map_cons, List.map_nil, h0, h1, run_bpf4 V x n w, Result.andThen_ok]
    rfl
  unfold Oper.wp
  rw [hrun]
  exact hK _ _ h
theorem results_pfx_tmp2 {fn : Func} {p u0 u1 : Tmp} (h : fn.results = #[.cell p 37, .tmp u0, .tmp u1]) (tmps : Array Value) (w : World) (O : Nat) (f : PV) (hp : tmps.getD p undef = .pointer (some ⟨O, 0, none⟩)) (hb : PfxAt w O f) :
    (results fn tmps).run Tryd.prog w = .ok (.tuple #[.agg (pfC f), tmps.getD u0 undef, tmps.getD u1 undef]) w := by
  have hp' : tmps[p]?.getD undef = .pointer (some ⟨O, 0, none⟩) := by simpa using hp
  simp [results, h, hp', asAddr, run_loadVar_row w O _ 37 (pfC f) _ _ hb Tryd.underlying37 rfl Tryd.size_pfx]
theorem idx_lt : ∀ (l : List UInt8) (c : UInt8), 0 ≤ Lib.indexByte l c → (Lib.indexByte l c).toNat < l.length
  | [], c, h => by unfold Lib.indexByte at h; exact absurd h (by decide)
  | b :: l, c, h => by
    have ih := idx_lt l c
    unfold Lib.indexByte at h ⊢
    by_cases hb : b == c
    · rw [if_pos hb]; simp
    · rw [if_neg hb] at h ⊢
      by_cases h1 : Lib.indexByte l c == -1
      · simp [h1] at h
      · simp only [h1] at h ⊢
        simp at h1 h ⊢
        by_cases h2 : 0 ≤ Lib.indexByte l c
        · have := ih h2; omega
        · omega
theorem pIP_er {s : ByteArray} {e : Nat × Nat} (h : pIP s = .inr e) : e.1 ≠ 0 := by
  unfold pIP at h
  split at h
  · injection h with h; rw [← h]; simp
  · split at h
    · split at h
      · rename_i hq
        injection h with h
        rw [← h]
        exact hq
      · split at h
        · injection h with h; rw [← h]; simp
        · cases h
    · split at h
      · rename_i e' hd
        injection h with h
        rw [← h]
        exact (dtd_er 4 0 [] hd).1
      · cases h
set_option maxHeartbeats 1600000 in
set_option maxRecDepth 100000 in
theorem parsePfx_long (s : ByteArray) (w : World) (hs : 49 < s.size) : Calls Tryd.prog 20 #[.string s] w fun r w' => r = .returned (pxO (pPF s)) ∧ Below w.heap.size w w' := by
  have HP : Hid (pPF s = .inr (2, 49)) := by show _ = _; unfold pPF; rw [if_pos hs]
  have q0 : decide ((49 : Int) < (s.size : Int)) = true := decide_eq_true (by omega)
  have q1 : decide (49 < s.size) = true := decide_eq_true hs
  have q2 : (49 : Int) < (s.size : Int) := by omega
  clear hs
  obtain ⟨W, hW⟩ : ∃ W_, W_ = w.alloc (.cells (pfC pz) 37) := ⟨_, rfl⟩
  obtain ⟨B, hB⟩ : ∃ B_, B_ = w.heap.size := ⟨_, rfl⟩
  have H0 : Hid (PfxAt W B pz ∧ Below w.heap.size w W ∧ w.heap.size ≤ B) := by rw [hW, hB]; exact ⟨pfx_new w pz, (Below.refl _ _).alloc (Nat.le_refl _) _, Nat.le_refl _⟩
  have HW : Hid (w.alloc (.cells #[.int .i64 0, .int .u8 0, .int .u8 0, .int .u8 0, .int .u8 0, .int .u8 0, .int .u8 0, .int .u8 0, .int .u8 0, .int .u8 0, .int .u8 0, .int .u8 0, .int .u8 0, .int .u8 0, .int .u8 0, .int .u8 0, .int .u8 0, .int .i64 0] 37) = W) := hW.symm
  have HBW : Hid (w.heap.size = B) := hB.symm
  clear hW hB
  go_enter Tryd.func20, Tryd.ntmps20
  go_upto_region 2 with fail
  (try rw [HBW.out])
  (try rw [HW.out])
  go_wp2_with (refine wpList_store_pfx (.tmp 2) (.tmp 16) rfl rfl B pz pz rfl rfl H0.out.1 rfl ?_)
  intro wE hRE kE
  have HE : Hid (PfxAt wE B pz ∧ Below w.heap.size w wE) := ⟨hRE, H0.out.2.1.trans (kE.below (fun q h => by have h' : q = B := h; have := H0.out.2.2; omega) H0.out.2.1.size)⟩
  clear hRE kE
  go_wp2
  (try simp only [Exit.inBlock, Exit.then])
  refine bodyPost_ret (results_pfx_tmp2 rfl _ _ B _ rfl HE.out.1) rfl ?_
  exact ⟨by rw [HP.out]; rfl, HE.out.2⟩
set_option maxHeartbeats 4000000 in
set_option maxRecDepth 100000 in
theorem parsePfx_short (s : ByteArray) (w : World) (hs : s.size ≤ 49) : Calls Tryd.prog 20 #[.string s] w fun r w' => r = .returned (pxO (pPF s)) ∧ Below w.heap.size w w' := by
  have HS : Hid (s.size ≤ 49) := hs
  have q0 : decide ((49 : Int) < (s.size : Int)) = false := decide_eq_false (by omega)
  have q1 : decide (49 < s.size) = false := decide_eq_false (by omega)
  clear hs
  obtain ⟨W, hW⟩ : ∃ W_, W_ = w.alloc (.cells (pfC pz) 37) := ⟨_, rfl⟩
  obtain ⟨B, hB⟩ : ∃ B_, B_ = w.heap.size := ⟨_, rfl⟩
  have H0 : Hid (PfxAt W B pz ∧ Below w.heap.size w W ∧ w.heap.size ≤ B) := by rw [hW, hB]; exact ⟨pfx_new w pz, (Below.refl _ _).alloc (Nat.le_refl _) _, Nat.le_refl _⟩
  have HW : Hid (w.alloc (.cells #[.int .i64 0, .int .u8 0, .int .u8 0, .int .u8 0, .int .u8 0, .int .u8 0, .int .u8 0, .int .u8 0, .int .u8 0, .int .u8 0, .int .u8 0, .int .u8 0, .int .u8 0, .int .u8 0, .int .u8 0, .int .u8 0, .int .u8 0, .int .i64 0] 37) = W) := hW.symm
  have HBW : Hid (w.heap.size = B) := hB.symm
  clear hW hB
  go_enter Tryd.func20, Tryd.ntmps20
  go_upto_region 3 with fail
  (try rw [HBW.out])
  (try rw [HW.out])
  go_wp2_with fail
  refine (idx_any s 47 W).mono ?_
  rintro e W ⟨rfl, rfl⟩
  obtain ⟨z, hz⟩ : ∃ z, slN47 s = z := ⟨_, rfl⟩
  have HZ : Hid (slN47 s = z) := hz
  rw [show Lib.indexByte s.data.toList ((47 : Int).toNat.toUInt8) = z from hz]
  by_cases h0 : z < 0
  · have q2 : decide (z < 0) = true := decide_eq_true h0
    have HP : Hid (pPF s = .inr (42, s.size)) := by show _ = _; unfold pPF; rw [if_neg (by have := HS.out; omega), if_pos (by rw [hz]; exact h0)]
    clear hz
    go_upto_region 5 with fail
    go_wp2_with (refine wpList_store_pfx (.tmp 2) (.tmp 21) rfl rfl B pz pz rfl rfl H0.out.1 rfl ?_)
    intro wE hRE kE
    have HE : Hid (PfxAt wE B pz ∧ Below w.heap.size w wE) := ⟨hRE, H0.out.2.1.trans (kE.below (fun q h => by have h' : q = B := h; have := H0.out.2.2; omega) H0.out.2.1.size)⟩
    clear hRE kE
    go_wp2
    (try simp only [Exit.inBlock, Exit.then])
    refine bodyPost_ret (results_pfx_tmp2 rfl _ _ B _ rfl HE.out.1) rfl ?_
    exact ⟨by rw [HP.out]; rfl, HE.out.2⟩
  · have hlt := idx_lt s.data.toList 47 (by have : slN47 s = z := hz; unfold slN47 at this; omega)
    obtain ⟨k, rfl⟩ : ∃ k : Nat, z = (k : Int) := ⟨z.toNat, by omega⟩
    have HK : Hid (k + 1 ≤ s.size ∧ (slN47 s).toNat = k) := by
      have h1 : (slN47 s).toNat < s.size := hlt
      have h2 : slN47 s = (k : Int) := hz
      exact ⟨by omega, by omega⟩
    have HP0 : Hid (pPF s = match pIP (s.extract 0 k) with | .inr e => .inr e | .inl (V, x) => pPF2 s k V x) := by
      show _ = _
      unfold pPF
      rw [if_neg (by have := HS.out; omega), if_neg (by rw [hz]; exact h0), HK.out.2]
      rfl
    have q2 : decide ((k : Int) < 0) = false := decide_eq_false h0
    have q3 : (0 : Int) ≤ (k : Int) := by omega
    have q4 : (k : Int) ≤ (s.size : Int) := by have := HK.out.1; omega
    have q5 : k ≤ s.size := by have := HK.out.1; omega
    clear hz h0 hlt HZ
    go_wp2_with fail
    refine (parseIP_any (s.extract 0 k) W).mono ?_
    rintro e w2 ⟨rfl, hb⟩
    have H2 : Hid (PfxAt w2 B pz ∧ Below w.heap.size w w2) := ⟨H0.out.1.below hb, H0.out.2.1.trans (hb.mono H0.out.2.1.size)⟩
    clear hb
    cases hpi : pIP (s.extract 0 k) with
    | inr er =>
      obtain ⟨e1, e2⟩ := er
      have hne : e1 ≠ 0 := pIP_er hpi
      have HP : Hid (pPF s = .inr (e1, e2)) := by show _ = _; rw [HP0.out, hpi]
      have q6 : (((e1 : Nat) : Int) != 0) = true := by simp; omega
      show _
      simp only [ipO]
      clear hpi hne
      go_wp2_with (refine wpList_store_ipr (.tmp 6) (.tmp 29) rfl rfl w2.heap.size 0 (fun _ => 0) 0 (fun _ => 0) rfl rfl (ipr_new w2 0 (fun _ => 0)) rfl ?_)
      intro w3 hRE kE
      have H3 : Hid (PfxAt w3 B pz ∧ Below w.heap.size w w3) := by
        have b3 : Below w2.heap.size w2 w3 := ((Below.refl _ _).alloc (Nat.le_refl _) _).trans (kE.below (fun q h => by have h' : q = w2.heap.size := h; omega) (by rw [World.size_alloc]; omega))
        exact ⟨H2.out.1.below b3, H2.out.2.trans (b3.mono H2.out.2.size)⟩
      clear hRE kE
      go_wp2_with (refine wpList_store_pfx (.tmp 2) (.tmp 34) rfl rfl B pz pz rfl rfl H3.out.1 rfl ?_)
      intro wE hRE kE
      have HE : Hid (PfxAt wE B pz ∧ Below w.heap.size w wE) := ⟨hRE, H3.out.2.trans (kE.below (fun q h => by have h' : q = B := h; have := H0.out.2.2; omega) H3.out.2.size)⟩
      clear hRE kE
      go_wp2
      (try simp only [Exit.inBlock, Exit.then])
      refine bodyPost_ret (results_pfx_tmp2 rfl _ _ B _ rfl HE.out.1) rfl ?_
      exact ⟨by rw [HP.out]; rfl, HE.out.2⟩
    | inl Vx =>
      obtain ⟨V, x⟩ := Vx
      have HP1 : Hid (pPF s = pPF2 s k V x ∧ ∀ i, x i < 256) := ⟨by rw [HP0.out, hpi], pIP_lt hpi⟩
      show _
      simp only [ipO]
      clear hpi
      obtain ⟨O, hO⟩ : ∃ O, O = w2.heap.size := ⟨_, rfl⟩
      have HO : Hid (w2.heap.size = O) := hO.symm
      clear hO
      go_wp2_with (refine wpList_store_ipr (.tmp 6) (.tmp 29) rfl rfl w2.heap.size 0 (fun _ => 0) V x rfl rfl (ipr_new w2 0 (fun _ => 0)) rfl ?_)
      intro w3 hRE kE
      rw [HO.out] at hRE kE ⊢
      have H3 : Hid (IprAt w3 O V x ∧ PfxAt w3 B pz ∧ Below w.heap.size w w3) := by
        have b3 : Below w2.heap.size w2 w3 := ((Below.refl _ _).alloc (Nat.le_refl _) _).trans (kE.below (fun q h => by have h' : q = O := h; have := HO.out; omega) (by rw [World.size_alloc]; omega))
        exact ⟨hRE, H2.out.1.below b3, H2.out.2.trans (b3.mono H2.out.2.size)⟩
      clear hRE kE
      have x9 : IntKind.i64.wrap ((k : Int) + 1) = (k : Int) + 1 := i64_s _ (by omega) (by have := HK.out.1; have := HS.out; omega)
      obtain ⟨R, hR⟩ : ∃ R, R = w3.heap.size := ⟨_, rfl⟩
      obtain ⟨w4, hw4⟩ : ∃ w4, w4 = w3.alloc (.cells (rdC s (k + 1)) 58) := ⟨_, rfl⟩
      have H4 : Hid (RdAt w4 R s (k + 1) ∧ IprAt w4 O V x ∧ PfxAt w4 B pz ∧ Below w.heap.size w w4) := by
        have b4 : Below w3.heap.size w3 w4 := by rw [hw4]; exact (Below.refl _ _).alloc (Nat.le_refl _) _
        exact ⟨by rw [hw4, hR]; exact heap_alloc_new _ _, H3.out.1.below b4, H3.out.2.1.below b4, H3.out.2.2.trans (b4.mono H3.out.2.2.size)⟩
      have HR3 : Hid (w3.heap.size = R) := hR.symm
      have HW4 : Hid (w3.alloc (.cells #[.string s, .int .i64 ((k : Int) + 1)] 58) = w4) := hw4.symm
      have HRB : Hid (R ≠ B ∧ w.heap.size ≤ R) := by
        have h1 := H3.out.2.1.lt
        have h2 := H3.out.2.2.size
        exact ⟨by omega, by omega⟩
      clear hR hw4
      go_upto_region 10 with fail
      (try rw [HR3.out])
      (try rw [HW4.out])
      go_wp2_with (refine wpList_load_ipr (.tmp 6) rfl O V x rfl H4.out.2.1 rfl ?_)
      refine (abits_any V x w4).mono ?_
      rintro e w5 ⟨rfl, hb⟩
      have H5 : Hid (RdAt w5 R s (k + 1) ∧ IprAt w5 O V x ∧ PfxAt w5 B pz ∧ Below w.heap.size w w5) := ⟨H4.out.1.below hb, H4.out.2.1.below hb, H4.out.2.2.1.below hb, H4.out.2.2.2.trans (hb.mono H4.out.2.2.2.size)⟩
      clear hb
      obtain ⟨q, hq⟩ : ∃ q, scP s dgB (k + 1) = q := ⟨_, rfl⟩
      have HQ : Hid (scP s dgB (k + 1) = q ∧ k + 1 ≤ q ∧ q ≤ s.size) := ⟨hq, by rw [← hq]; exact scP_ge _ _ _, by rw [← hq]; exact scP_le HK.out.1⟩
      obtain ⟨bv, hbv⟩ : ∃ bv : Nat, bitV V = bv := ⟨_, rfl⟩
      have HBV : Hid (bitV V = bv) := hbv
      rw [hbv]
      clear hq hbv
      go_wp2_with fail
      refine (number_any R s (k + 1) bv 45 w5 H5.out.1 HK.out.1 (by have := HS.out; omega)).mono ?_
      rintro e w6 ⟨rfl, hn⟩
      have H6' : Hid (IprAt w6 O V x ∧ PfxAt w6 B pz ∧ Below w.heap.size w w6) := ⟨H5.out.2.1.ch hn.2 (by have h1 := H3.out.1.lt; have h2 := HR3.out; omega), H5.out.2.2.1.ch hn.2 (fun e => HRB.out.1 e.symm), H5.out.2.2.2.trans (hn.2.below (fun q h => by have h' : q = R := h; have := HRB.out; omega) H5.out.2.2.2.size)⟩
      by_cases h1 : q = k + 1
      · have hz := nm_no (most := bv) (why := 45) (HQ.out.1.trans h1)
        have HP : Hid (pPF s = .inr ((hrE s (k + 1)).1, k + 1)) := by show _ = _; rw [HP1.out.1]; unfold pPF2; rw [if_pos (HQ.out.1.trans h1)]
        rw [hz.2] at hn
        rw [hz.1]
        have H6 : Hid (RdAt w6 R s (k + 1) ∧ PfxAt w6 B pz ∧ Below w.heap.size w w6) := ⟨hn.1, H6'.out.2⟩
        obtain ⟨er, her⟩ : ∃ er : Nat, er = (hrE s (k + 1)).1 := ⟨_, rfl⟩
        have e1 : (((er : Nat) : Int) != 0) = true := by rw [her]; unfold hrE; split <;> rfl
        have e2 : (((er : Nat) : Int) == 0) = false := by rw [her]; unfold hrE; split <;> rfl
        have HP2 : Hid (pPF s = .inr (er, k + 1)) := by rw [her]; exact HP.out
        rw [← her]
        clear hz hn h1 her HP
        go_upto_region 14 with fail
        refine MixH.start (fun A => RdAt A R s (k + 1) ∧ PfxAt A B pz ∧ Below w.heap.size w A) (by kernel_rfl) ?_
        obtain ⟨wA, hwA⟩ : ∃ W_, W_ = w6.drew := ⟨_, rfl⟩
        have bdr : Below w6.heap.size w6 wA := by rw [hwA]; exact (Below.refl _ _).drew
        have hS : RdAt wA R s (k + 1) ∧ PfxAt wA B pz ∧ Below w.heap.size w wA := ⟨H6.out.1.below bdr, H6.out.2.1.below bdr, H6.out.2.2.trans (bdr.mono H6.out.2.2.size)⟩
        rw [← hwA]
        clear hwA bdr
        refine MixH.takes [true, true, true] 4 (by kernel_rfl) (by kernel_rfl) (by decide) (by kernel_rfl) hS (fun K hK => ?_)
        simp only [Mix.pick]
        repeat (go_big_quiet_step (fail))
        refine wpQuiet_nil (hK _ ?_)
        clear hK K
        refine MixH.take 3 3 _ (.int .i64 ((k + 1) : Nat)) rfl (by kernel_rfl) (by kernel_rfl) (by kernel_rfl) (by kernel_rfl) (yields_int (.tmp 54) rfl ⟨R, 1, none⟩ (.int .i64 ((k + 1) : Nat)) rfl rfl (fun A hA => hA.1.c1)) hS (fun a' ha => ?_)
        simp only [Act.put, List.setIfInBounds_toArray, List.set_cons_succ, List.set_cons_zero] at ha
        subst ha
        refine MixH.one [false, false, false, false, true] 2 4 _ rfl rfl (by kernel_rfl) (by kernel_rfl) (fun K hK => ?_)
        simp only [Mix.pick]
        go_wp2_with (refine wpList_store_pfx (.tmp 2) (.tmp 52) rfl rfl B pz pz rfl rfl hS.2.1 rfl ?_)
        intro wE hRE kE
        replace hS : RdAt wE R s (k + 1) ∧ PfxAt wE B pz ∧ Below w.heap.size w wE := ⟨hS.1.ch kE (by have := HRB.out; omega), hRE, hS.2.2.trans (kE.below (fun q h => by have h' : q = B := h; have := H0.out.2.2; omega) hS.2.2.size)⟩
        clear hRE kE
        go_wp2_with fail
        refine ⟨rfl, hK _ _ hS ?_⟩
        clear hK K
        refine MixH.takes [false, false, false, false, false, true, true] 0 (by kernel_rfl) (by kernel_rfl) (by decide) (by kernel_rfl) hS (fun K hK => ?_)
        simp only [Mix.pick]
        repeat (go_big_quiet_step (fail))
        refine wpQuiet_nil (hK _ ?_)
        clear hK K
        refine MixH.done (by kernel_rfl) ?_
        have HE : Hid (RdAt wE R s (k + 1) ∧ PfxAt wE B pz ∧ Below w.heap.size w wE) := hS
        clear hS
        go_wp2
        (try simp only [Exit.inBlock, Exit.then])
        refine bodyPost_ret (results_pfx_tmp2 rfl _ _ B _ rfl HE.out.2.1) rfl ?_
        exact ⟨by rw [HP2.out]; rfl, HE.out.2.2⟩
      · by_cases h2 : dcm s (k + 1) q bv < 0
        · have hz := nm_why (why := 45) HQ.out.1 h1 h2
          have HP2 : Hid (pPF s = .inr (45, k + 1)) := by show _ = _; rw [HP1.out.1]; unfold pPF2; rw [HQ.out.1, if_neg h1, HBV.out, if_pos h2]
          rw [hz.2] at hn
          rw [hz.1]
          have H6 : Hid (RdAt w6 R s (k + 1) ∧ PfxAt w6 B pz ∧ Below w.heap.size w w6) := ⟨hn.1, H6'.out.2⟩
          clear hz hn h1 h2
          go_upto_region 14 with fail
          refine MixH.start (fun A => RdAt A R s (k + 1) ∧ PfxAt A B pz ∧ Below w.heap.size w A) (by kernel_rfl) ?_
          obtain ⟨wA, hwA⟩ : ∃ W_, W_ = w6.drew := ⟨_, rfl⟩
          have bdr : Below w6.heap.size w6 wA := by rw [hwA]; exact (Below.refl _ _).drew
          have hS : RdAt wA R s (k + 1) ∧ PfxAt wA B pz ∧ Below w.heap.size w wA := ⟨H6.out.1.below bdr, H6.out.2.1.below bdr, H6.out.2.2.trans (bdr.mono H6.out.2.2.size)⟩
          rw [← hwA]
          clear hwA bdr
          refine MixH.takes [true, true, true] 4 (by kernel_rfl) (by kernel_rfl) (by decide) (by kernel_rfl) hS (fun K hK => ?_)
          simp only [Mix.pick]
          repeat (go_big_quiet_step (fail))
          refine wpQuiet_nil (hK _ ?_)
          clear hK K
          refine MixH.take 3 3 _ (.int .i64 ((k + 1) : Nat)) rfl (by kernel_rfl) (by kernel_rfl) (by kernel_rfl) (by kernel_rfl) (yields_int (.tmp 54) rfl ⟨R, 1, none⟩ (.int .i64 ((k + 1) : Nat)) rfl rfl (fun A hA => hA.1.c1)) hS (fun a' ha => ?_)
          simp only [Act.put, List.setIfInBounds_toArray, List.set_cons_succ, List.set_cons_zero] at ha
          subst ha
          refine MixH.one [false, false, false, false, true] 2 4 _ rfl rfl (by kernel_rfl) (by kernel_rfl) (fun K hK => ?_)
          simp only [Mix.pick]
          go_wp2_with (refine wpList_store_pfx (.tmp 2) (.tmp 52) rfl rfl B pz pz rfl rfl hS.2.1 rfl ?_)
          intro wE hRE kE
          replace hS : RdAt wE R s (k + 1) ∧ PfxAt wE B pz ∧ Below w.heap.size w wE := ⟨hS.1.ch kE (by have := HRB.out; omega), hRE, hS.2.2.trans (kE.below (fun q h => by have h' : q = B := h; have := H0.out.2.2; omega) hS.2.2.size)⟩
          clear hRE kE
          go_wp2_with fail
          refine ⟨rfl, hK _ _ hS ?_⟩
          clear hK K
          refine MixH.takes [false, false, false, false, false, true, true] 0 (by kernel_rfl) (by kernel_rfl) (by decide) (by kernel_rfl) hS (fun K hK => ?_)
          simp only [Mix.pick]
          repeat (go_big_quiet_step (fail))
          refine wpQuiet_nil (hK _ ?_)
          clear hK K
          refine MixH.done (by kernel_rfl) ?_
          have HE : Hid (RdAt wE R s (k + 1) ∧ PfxAt wE B pz ∧ Below w.heap.size w wE) := hS
          clear hS
          go_wp2
          (try simp only [Exit.inBlock, Exit.then])
          refine bodyPost_ret (results_pfx_tmp2 rfl _ _ B _ rfl HE.out.2.1) rfl ?_
          exact ⟨by rw [HP2.out]; rfl, HE.out.2.2⟩
        · have hz := nm_yes (why := 45) HQ.out.1 h1 h2
          obtain ⟨n, hn0⟩ : ∃ n : Int, dcm s (k + 1) q bv = n := ⟨_, rfl⟩
          have HP3 : Hid (pPF s = if q ≠ s.size then .inr (41, q) else if vpE ⟨V, x, n⟩ ≠ 0 then .inr (vpE ⟨V, x, n⟩, 0) else .inl ⟨V, x, n⟩) := by
            show _ = _
            rw [HP1.out.1]
            unfold pPF2
            rw [HQ.out.1, if_neg h1, HBV.out, if_neg h2, hn0]
          rw [hz.2] at hn
          rw [hz.1, hn0]
          have H6 : Hid (RdAt w6 R s q ∧ IprAt w6 O V x ∧ PfxAt w6 B pz ∧ Below w.heap.size w w6) := ⟨hn.1, H6'.out⟩
          clear hz hn h1 h2 hn0
          go_wp2_with fail
          refine (end_any R s q w6 H6.out.1).mono ?_
          rintro e w7 ⟨rfl, hn⟩
          have H7 : Hid (RdAt w7 R s q ∧ IprAt w7 O V x ∧ PfxAt w7 B pz ∧ Below w.heap.size w w7) := ⟨rd_no H6.out.1 hn, H6.out.2.1.ch hn (fun h => h), H6.out.2.2.1.ch hn (fun h => h), H6.out.2.2.2.trans (hn.below (fun _ h => h.elim) H6.out.2.2.2.size)⟩
          clear hn
          by_cases h3 : q = s.size
          · have HP4 : Hid (pPF s = if vpE ⟨V, x, n⟩ ≠ 0 then .inr (vpE ⟨V, x, n⟩, 0) else .inl ⟨V, x, n⟩) := by show _ = _; rw [HP3.out, if_neg (by simp [h3])]
            rw [if_pos (by simp [h3])]
            clear h3
            obtain ⟨D, hD⟩ : ∃ D, D = w7.heap.size := ⟨_, rfl⟩
            have HD : Hid (w7.heap.size = D) := hD.symm
            clear hD
            go_wp2_with (first | (refine wpList_load_ipr (.tmp 6) rfl O V x rfl H7.out.2.1 rfl ?_) | (refine wpList_bpf4 (.tmp 56) (.tmp 57) rfl V x n rfl rfl rfl ?_) | (refine wpList_store_pfx (.tmp 11) (.tmp 58) rfl rfl w7.heap.size pz ⟨V, x, n⟩ rfl rfl (pfx_new w7 pz) rfl ?_))
            intro w8 hRE kE
            rw [HD.out] at hRE kE ⊢
            have H8 : Hid (PfxAt w8 D ⟨V, x, n⟩ ∧ PfxAt w8 B pz ∧ Below w.heap.size w w8) := by
              have b3 : Below w7.heap.size w7 w8 := ((Below.refl _ _).alloc (Nat.le_refl _) _).trans (kE.below (fun q h => by have h' : q = D := h; have := HD.out; omega) (by rw [World.size_alloc]; omega))
              exact ⟨hRE, H7.out.2.2.1.below b3, H7.out.2.2.2.trans (b3.mono H7.out.2.2.2.size)⟩
            clear hRE kE
            go_wp2_with (refine wpList_load_pfx (.tmp 11) rfl D ⟨V, x, n⟩ rfl H8.out.1 rfl ?_)
            refine (vpref_any ⟨V, x, n⟩ w8 (fun i _ => HP1.out.2 i)).mono ?_
            rintro e w9 ⟨rfl, hb⟩
            have H9 : Hid (PfxAt w9 D ⟨V, x, n⟩ ∧ PfxAt w9 B pz ∧ Below w.heap.size w w9) := ⟨H8.out.1.below hb, H8.out.2.1.below hb, H8.out.2.2.trans (hb.mono H8.out.2.2.size)⟩
            clear hb
            by_cases h4 : vpE ⟨V, x, n⟩ = 0
            · rw [h4]
              have HP2 : Hid (pPF s = .inl ⟨V, x, n⟩) := by show _ = _; rw [HP4.out, if_neg (by simp [h4])]
              clear h4
              go_wp2_with (first | (refine wpList_load_pfx (.tmp 11) rfl D ⟨V, x, n⟩ rfl H9.out.1 rfl ?_) | (refine wpList_store_pfx (.tmp 2) (.tmp 65) rfl rfl B pz ⟨V, x, n⟩ rfl rfl H9.out.2.1 rfl ?_))
              intro wE hRE kE
              have HE : Hid (PfxAt wE B ⟨V, x, n⟩ ∧ Below w.heap.size w wE) := ⟨hRE, H9.out.2.2.trans (kE.below (fun q h => by have h' : q = B := h; have := H0.out.2.2; omega) H9.out.2.2.size)⟩
              clear hRE kE
              go_wp2
              (try simp only [Exit.inBlock, Exit.then])
              refine bodyPost_ret (results_pfx_tmp2 rfl _ _ B _ rfl HE.out.1) rfl ?_
              exact ⟨by rw [HP2.out]; rfl, HE.out.2⟩
            · obtain ⟨er, her⟩ : ∃ er : Nat, vpE ⟨V, x, n⟩ = er := ⟨_, rfl⟩
              rw [her] at h4 ⊢
              have HP2 : Hid (pPF s = .inr (er, 0)) := by show _ = _; rw [HP4.out, her, if_pos h4]
              have e1 : (((er : Nat) : Int) != 0) = true := by simp [h4]
              clear h4 her
              go_wp2_with (refine wpList_store_pfx (.tmp 2) (.tmp 63) rfl rfl B pz pz rfl rfl H9.out.2.1 rfl ?_)
              intro wE hRE kE
              have HE : Hid (PfxAt wE B pz ∧ Below w.heap.size w wE) := ⟨hRE, H9.out.2.2.trans (kE.below (fun q h => by have h' : q = B := h; have := H0.out.2.2; omega) H9.out.2.2.size)⟩
              clear hRE kE
              go_wp2
              (try simp only [Exit.inBlock, Exit.then])
              refine bodyPost_ret (results_pfx_tmp2 rfl _ _ B _ rfl HE.out.1) rfl ?_
              exact ⟨by rw [HP2.out]; rfl, HE.out.2⟩
          · have HP2 : Hid (pPF s = .inr (41, q)) := by show _ = _; rw [HP3.out, if_pos h3]
            rw [if_neg (by simpa using h3)]
            have H8 : Hid (RdAt w7 R s q ∧ PfxAt w7 B pz ∧ Below w.heap.size w w7) := ⟨H7.out.1, H7.out.2.2⟩
            clear h3
            go_upto_region 14 with fail
            refine MixH.start (fun A => RdAt A R s q ∧ PfxAt A B pz ∧ Below w.heap.size w A) (by kernel_rfl) ?_
            obtain ⟨wA, hwA⟩ : ∃ W_, W_ = w7.drew := ⟨_, rfl⟩
            have bdr : Below w7.heap.size w7 wA := by rw [hwA]; exact (Below.refl _ _).drew
            have hS : RdAt wA R s q ∧ PfxAt wA B pz ∧ Below w.heap.size w wA := ⟨H8.out.1.below bdr, H8.out.2.1.below bdr, H8.out.2.2.trans (bdr.mono H8.out.2.2.size)⟩
            rw [← hwA]
            clear hwA bdr
            refine MixH.takes [true, true, true] 4 (by kernel_rfl) (by kernel_rfl) (by decide) (by kernel_rfl) hS (fun K hK => ?_)
            simp only [Mix.pick]
            repeat (go_big_quiet_step (fail))
            refine wpQuiet_nil (hK _ ?_)
            clear hK K
            refine MixH.take 3 3 _ (.int .i64 (q : Nat)) rfl (by kernel_rfl) (by kernel_rfl) (by kernel_rfl) (by kernel_rfl) (yields_int (.tmp 54) rfl ⟨R, 1, none⟩ (.int .i64 (q : Nat)) rfl rfl (fun A hA => hA.1.c1)) hS (fun a' ha => ?_)
            simp only [Act.put, List.setIfInBounds_toArray, List.set_cons_succ, List.set_cons_zero] at ha
            subst ha
            refine MixH.one [false, false, false, false, true] 2 4 _ rfl rfl (by kernel_rfl) (by kernel_rfl) (fun K hK => ?_)
            simp only [Mix.pick]
            go_wp2_with (refine wpList_store_pfx (.tmp 2) (.tmp 52) rfl rfl B pz pz rfl rfl hS.2.1 rfl ?_)
            intro wE hRE kE
            replace hS : RdAt wE R s q ∧ PfxAt wE B pz ∧ Below w.heap.size w wE := ⟨hS.1.ch kE (by have := HRB.out; omega), hRE, hS.2.2.trans (kE.below (fun q h => by have h' : q = B := h; have := H0.out.2.2; omega) hS.2.2.size)⟩
            clear hRE kE
            go_wp2_with fail
            refine ⟨rfl, hK _ _ hS ?_⟩
            clear hK K
            refine MixH.takes [false, false, false, false, false, true, true] 0 (by kernel_rfl) (by kernel_rfl) (by decide) (by kernel_rfl) hS (fun K hK => ?_)
            simp only [Mix.pick]
            repeat (go_big_quiet_step (fail))
            refine wpQuiet_nil (hK _ ?_)
            clear hK K
            refine MixH.done (by kernel_rfl) ?_
            have HE : Hid (RdAt wE R s q ∧ PfxAt wE B pz ∧ Below w.heap.size w wE) := hS
            clear hS
            go_wp2
            (try simp only [Exit.inBlock, Exit.then])
            refine bodyPost_ret (results_pfx_tmp2 rfl _ _ B _ rfl HE.out.2.1) rfl ?_
            exact ⟨by rw [HP2.out]; rfl, HE.out.2.2⟩
theorem parsePfx_any (s : ByteArray) (w : World) : Calls Tryd.prog 20 #[.string s] w fun r w' => r = .returned (pxO (pPF s)) ∧ Below w.heap.size w w' := by
  by_cases h1 : s.size ≤ 49
  · exact parsePfx_short s w h1
  · exact parsePfx_long s w (by omega)
end Go.Proofs.YtfeabifjnihooaaDoor
