/-
  Layer 4: a prefix read, in numbers; what is read as an address has bytes.
-/
/-
  Layer 4: addr.ParsePrefix.
-/
/-
  Layer 4: a printed prefix is read as it was.
-/
/-
  Layer 4: a link address read, in numbers; a printed one is read as it was.
-/
/-
  Layer 4: addr.ParseMac.
-/
/-
  Layer 4: what is read is valid.
-/
import Derived.Test.YteldiggaooeeeaaGreatDoorZx
namespace Go.Proofs.YteldiggaooeeeaaGreatDoor
open Go.RowKit

theorem slp_ok {s : ByteArray} : ∀ (f : Nat) (Z : SX × Bool), SxOk s Z.1 → SxOk s (slp s f Z)
  | 0, _, h => h
  | f + 1, Z, h => by
    unfold slp
    split
    · exact slp_ok f _ (rnd_ok' h)
    · exact h
theorem sxL_ok (s : ByteArray) : SxOk s (sxL s) := slp_ok _ _ (sx0_ok s)
theorem fil_lt {X : SX} (h : ∀ n ∈ X.g, n < 65536) : ∀ k i, fil X k i < 256
  | 0, _ => by show 0 < 256; decide
  | k + 1, i => by
    rw [fil_step]
    split
    · exact gb_lt h _
    · exact fil_lt h k i
theorem pIP_lt {s : ByteArray} {V : Int} {x : Nat → Nat} (h : pIP s = .inl (V, x)) : ∀ i, x i < 256 := by
  unfold pIP at h
  split at h
  · cases h
  · split at h
    · split at h
      · cases h
      · split at h
        · cases h
        · injection h with h
          injection h with h1 h2
          intro i
          rw [← h2]
          exact fil_lt (sxL_ok s).b _ i
    · split at h
      · cases h
      · rename_i l hd
        injection h with h
        injection h with h1 h2
        intro i
        rw [← h2]
        exact dtd_at hd i
theorem pIP_vld {s : ByteArray} {V : Int} {x : Nat → Nat} (h : pIP s = .inl (V, x)) : V = 6 ∨ (V = 4 ∧ ∀ i, 4 ≤ i → x i = 0) := by
  unfold pIP at h
  split at h
  · cases h
  · split at h
    · split at h
      · cases h
      · split at h
        · cases h
        · injection h with h
          injection h with h1 h2
          exact .inl h1.symm
    · split at h
      · cases h
      · rename_i l hd
        injection h with h
        injection h with h1 h2
        refine .inr ⟨h1.symm, fun i hi => ?_⟩
        obtain ⟨t, ht, ht4, _⟩ := dtd_ok 4 0 [] hd
        rw [← h2]
        show l.getD i 0 = 0
        rw [ht, List.nil_append, List.getD_eq_getElem?_getD, List.getElem?_eq_none (by omega)]
        rfl
/-- where the stroke stands, -1 where there is none -/
def slN47 (s : ByteArray) : Int := Lib.indexByte s.data.toList 47
/-- behind the stroke at k, the address read -/
def pPF2 (s : ByteArray) (k : Nat) (V : Int) (x : Nat → Nat) : Sum PV (Nat × Nat) :=
  if scP s dgB (k + 1) = k + 1 then .inr ((hrE s (k + 1)).1, k + 1) else
  if dcm s (k + 1) (scP s dgB (k + 1)) (bitV V) < 0 then .inr (45, k + 1) else
  if scP s dgB (k + 1) ≠ s.size then .inr (41, scP s dgB (k + 1)) else
  if vpE ⟨V, x, dcm s (k + 1) (scP s dgB (k + 1)) (bitV V)⟩ ≠ 0 then .inr (vpE ⟨V, x, dcm s (k + 1) (scP s dgB (k + 1)) (bitV V)⟩, 0) else
  .inl ⟨V, x, dcm s (k + 1) (scP s dgB (k + 1)) (bitV V)⟩
/-- ParsePrefix in numbers -/
def pPF (s : ByteArray) : Sum PV (Nat × Nat) :=
  if 49 < s.size then .inr (2, 49) else
  if slN47 s < 0 then .inr (42, s.size) else
  match pIP (s.extract 0 (slN47 s).toNat) with
  | .inr e => .inr e
  | .inl (V, x) => pPF2 s (slN47 s).toNat V x
/-- ParsePrefix's answer -/
def pxO (r : Sum PV (Nat × Nat)) : Value := match r with
  | .inl p => .tuple #[.agg (pfC p), .int .i64 0, .int .i64 0]
  | .inr (e, p) => .tuple #[.agg (pfC pz), .int .i64 (e : Nat), .int .i64 (p : Nat)]
end Go.Proofs.YteldiggaooeeeaaGreatDoor
namespace Go.Proofs.YteldiggaooeeeaaGreatDoor
open Go.RowKit Go.Maps

theorem run_bpf4 (V : Int) (x : Nat → Nat) (n : Int) (w : World) : (Instr.build 38 #[(0, .agg (ipCells V x)), (1, .int .i64 n)]).run Tryz.prog w = .ok (.agg (pfC ⟨V, x, n⟩)) w := by kernel_rfl
theorem wpList_bpf4 {ops : Array Oper} {rest : List Oper} {o : Oper} {a_ : Act} {w : World} {Q : Exit → Act → World → Prop} (y0 y1 : Operand) (ho : o.op = .build 38 #[(0, y0), (1, y1)]) (V : Int) (x : Nat → Nat) (n : Int) (h0 : a_.eval y0 = .agg (ipCells V x)) (h1 : a_.eval y1 = .int .i64 n) (hw : Region.wanted o (yielded ops a_.tmps) = true)
    (h : wpList Tryz.prog ops Q rest (a_.put o.dst (.agg (pfC ⟨V, x, n⟩))) w) : wpList Tryz.prog ops Q (o :: rest) a_ w := by
  refine wpList_step fun K hK => ?_
  rw [if_pos hw]
  have hrun : (execOp a_.eval o).run Tryz.prog w = .ok (.value (.agg (pfC ⟨V, x, n⟩))) w := by
    obtain ⟨dst, op, type, pos, after, guard⟩ := o
    simp only at ho
    subst ho
    simp only [execOp, Sem.run_bind, List.map_toArray, List.map_cons, List.map_nil, h0, h1, run_bpf4 V x n w, Result.andThen_ok]
    rfl
  unfold Oper.wp
  rw [hrun]
  exact hK _ _ h
theorem results_pfx_tmp2 {fn : Func} {p u0 u1 : Tmp} (h : fn.results = #[.cell p 38, .tmp u0, .tmp u1]) (tmps : Array Value) (w : World) (O : Nat) (f : PV) (hp : tmps.getD p undef = .pointer (some ⟨O, 0, none⟩)) (hb : PfxAt w O f) :
    (results fn tmps).run Tryz.prog w = .ok (.tuple #[.agg (pfC f), tmps.getD u0 undef, tmps.getD u1 undef]) w := by
  have hp' : tmps[p]?.getD undef = .pointer (some ⟨O, 0, none⟩) := by simpa using hp
  simp [results, h, hp', asAddr, run_loadVar_row w O _ 38 (pfC f) _ _ hb Tryz.underlying38 rfl Tryz.size_pfx]
theorem idx_lt : ∀ (l : List UInt8) (c : UInt8), 0 ≤ Lib.indexByte l c → (Lib.indexByte l c).toNat < l.length
  | [], c, h => by unfold Lib.indexByte at h; exact absurd h (by decide)
  | b :: l, c, h => by
    have ih := idx_lt l c
    unfold Lib.indexByte at h ⊢
    by_cases hb : b == c
    · rw [if_pos hb]; simp
    · rw [if_neg hb] at h ⊢
      by_cases h1 : Lib.indexByte l c == -1
      · simp [h1] at h
      · simp only [h1] at h ⊢
        simp at h1 h ⊢
        by_cases h2 : 0 ≤ Lib.indexByte l c
        · have := ih h2; omega
        · omega
theorem pIP_er {s : ByteArray} {e : Nat × Nat} (h : pIP s = .inr e) : e.1 ≠ 0 := by
  unfold pIP at h
  split at h
  · injection h with h; rw [← h]; simp
  · split at h
    · split at h
      · rename_i hq
        injection h with h
        rw [← h]
        exact hq
      · split at h
        · injection h with h; rw [← h]; simp
        · cases h
    · split at h
      · rename_i e' hd
        injection h with h
        rw [← h]
        exact (dtd_er 4 0 [] hd).1
      · cases h
set_option maxHeartbeats 1600000 in
set_option maxRecDepth 100000 in
theorem parsePfx_long (s : ByteArray) (w : World) (hs : 49 < s.size) : Calls Tryz.prog 43 #[.string s] w fun r w' => r = .returned (pxO (pPF s)) ∧ Below w.heap.size w w' := by
  have HP : Hid (pPF s = .inr (2, 49)) := by show _ = _; unfold pPF; rw [if_pos hs]
  have q0 : decide ((49 : Int) < (s.size : Int)) = true := decide_eq_true (by omega)
  have q1 : decide (49 < s.size) = true := decide_eq_true hs
  have q2 : (49 : Int) < (s.size : Int) := by omega
  clear hs
  obtain ⟨W, hW⟩ : ∃ W_, W_ = w.alloc (.cells (pfC pz) 38) := ⟨_, rfl⟩
  obtain ⟨B, hB⟩ : ∃ B_, B_ = w.heap.size := ⟨_, rfl⟩
  have H0 : Hid (PfxAt W B pz ∧ Below w.heap.size w W ∧ w.heap.size ≤ B) := by rw [hW, hB]; exact ⟨pfx_new w pz, (Below.refl _ _).alloc (Nat.le_refl _) _, Nat.le_refl _⟩
  have HW : Hid (w.alloc (.cells #[.int .i64 0, .int .u8 0, .int .u8 0, .int .u8 0, .int .u8 0, .int .u8 0, .int .u8 0, .int .u8 0, .int .u8 0, .int .u8 0, .int .u8 0, .int .u8 0, .int .u8 0, .int .u8 0, .int .u8 0, .int .u8 0, .int .u8 0, .int .i64 0] 38) = W) := hW.symm
  have HBW : Hid (w.heap.size = B) := hB.symm
  clear hW hB
  go_enter Tryz.func43, Tryz.ntmps43
  go_upto_region 2 with fail
  (try rw [HBW.out])
  (try rw [HW.out])
  go_wp2_with (refine wpList_store_pfx (.tmp 2) (.tmp 16) rfl rfl B pz pz rfl rfl H0.out.1 rfl ?_)
  intro wE hRE kE
  have HE : Hid (PfxAt wE B pz ∧ Below w.heap.size w wE) := ⟨hRE, H0.out.2.1.trans (kE.below (fun q h => by have h' : q = B := h; have := H0.out.2.2; omega) H0.out.2.1.size)⟩
  clear hRE kE
  go_wp2
  (try simp only [Exit.inBlock, Exit.then])
  refine bodyPost_ret (results_pfx_tmp2 rfl _ _ B _ rfl HE.out.1) rfl ?_
  exact ⟨by rw [HP.out]; rfl, HE.out.2⟩
set_option maxHeartbeats 4000000 in
set_option maxRecDepth 100000 in
theorem parsePfx_short (s : ByteArray) (w : World) (hs : s.size ≤ 49) : Calls Tryz.prog 43 #[.string s] w fun r w' => r = .returned (pxO (pPF s)) ∧ Below w.heap.size w w' := by
  have HS : Hid (s.size ≤ 49) := hs
  have q0 : decide ((49 : Int) < (s.size : Int)) = false := decide_eq_false (by omega)
  have q1 : decide (49 < s.size) = false := decide_eq_false (by omega)
  clear hs
  obtain ⟨W, hW⟩ : ∃ W_, W_ = w.alloc (.cells (pfC pz) 38) := ⟨_, rfl⟩
  obtain ⟨B, hB⟩ : ∃ B_, B_ = w.heap.size := ⟨_, rfl⟩
  have H0 : Hid (PfxAt W B pz ∧ Below w.heap.size w W ∧ w.heap.size ≤ B) := by rw [hW, hB]; exact ⟨pfx_new w pz, (Below.refl _ _).alloc (Nat.le_refl _) _, Nat.le_refl _⟩
  have HW : Hid (w.alloc (.cells #[.int .i64 0, .int .u8 0, .int .u8 0, .int .u8 0, .int .u8 0, .int .u8 0, .int .u8 0, .int .u8 0, .int .u8 0, .int .u8 0, .int .u8 0, .int .u8 0, .int .u8 0, .int .u8 0, .int .u8 0, .int .u8 0, .int .u8 0, .int .i64 0] 38) = W) := hW.symm
  have HBW : Hid (w.heap.size = B) := hB.symm
  clear hW hB
  go_enter Tryz.func43, Tryz.ntmps43
  go_upto_region 3 with fail
  (try rw [HBW.out])
  (try rw [HW.out])
  go_wp2_with fail
  refine (idx_any s 47 W).mono ?_
  rintro e W ⟨rfl, rfl⟩
  obtain ⟨z, hz⟩ : ∃ z, slN47 s = z := ⟨_, rfl⟩
  have HZ : Hid (slN47 s = z) := hz
  rw [show Lib.indexByte s.data.toList ((47 : Int).toNat.toUInt8) = z from hz]
  by_cases h0 : z < 0
  · have q2 : decide (z < 0) = true := decide_eq_true h0
    have HP : Hid (pPF s = .inr (42, s.size)) := by show _ = _; unfold pPF; rw [if_neg (by have := HS.out; omega), if_pos (by rw [hz]; exact h0)]
    clear hz
    go_upto_region 5 with fail
    go_wp2_with (refine wpList_store_pfx (.tmp 2) (.tmp 21) rfl rfl B pz pz rfl rfl H0.out.1 rfl ?_)
    intro wE hRE kE
    have HE : Hid (PfxAt wE B pz ∧ Below w.heap.size w wE) := ⟨hRE, H0.out.2.1.trans (kE.below (fun q h => by have h' : q = B := h; have := H0.out.2.2; omega) H0.out.2.1.size)⟩
    clear hRE kE
    go_wp2
    (try simp only [Exit.inBlock, Exit.then])
    refine bodyPost_ret (results_pfx_tmp2 rfl _ _ B _ rfl HE.out.1) rfl ?_
    exact ⟨by rw [HP.out]; rfl, HE.out.2⟩
  · have hlt := idx_lt s.data.toList 47 (by have : slN47 s = z := hz; unfold slN47 at this; omega)
    obtain ⟨k, rfl⟩ : ∃ k : Nat, z = (k : Int) := ⟨z.toNat, by omega⟩
    have HK : Hid (k + 1 ≤ s.size ∧ (slN47 s).toNat = k) := by
      have h1 : (slN47 s).toNat < s.size := hlt
      have h2 : slN47 s = (k : Int) := hz
      exact ⟨by omega, by omega⟩
    have HP0 : Hid (pPF s = match pIP (s.extract 0 k) with | .inr e => .inr e | .inl (V, x) => pPF2 s k V x) := by
      show _ = _
      unfold pPF
      rw [if_neg (by have := HS.out; omega), if_neg (by rw [hz]; exact h0), HK.out.2]
      all_goals rfl
    have q2 : decide ((k : Int) < 0) = false := decide_eq_false h0
    have q3 : (0 : Int) ≤ (k : Int) := by omega
    have q4 : (k : Int) ≤ (s.size : Int) := by have := HK.out.1; omega
    have q5 : k ≤ s.size := by have := HK.out.1; omega
    clear hz h0 hlt HZ
    go_wp2_with fail
    refine (parseIP_any (s.extract 0 k) W).mono ?_
    rintro e w2 ⟨rfl, hb⟩
    have H2 : Hid (PfxAt w2 B pz ∧ Below w.heap.size w w2) := ⟨H0.out.1.below hb, H0.out.2.1.trans (hb.mono H0.out.2.1.size)⟩
    clear hb
    cases hpi : pIP (s.extract 0 k) with
    | inr er =>
      obtain ⟨e1, e2⟩ := er
      have hne : e1 ≠ 0 := pIP_er hpi
      have HP : Hid (pPF s = .inr (e1, e2)) := by show _ = _; rw [HP0.out, hpi]
      have q6 : (((e1 : Nat) : Int) != 0) = true := by simp; omega
      show _
      simp only [ipO]
      clear hpi hne
      go_wp2_with (refine wpList_store_ipr (.tmp 6) (.tmp 29) rfl rfl w2.heap.size 0 (fun _ => 0) 0 (fun _ => 0) rfl rfl (ipr_new w2 0 (fun _ => 0)) rfl ?_)
      intro w3 hRE kE
      have H3 : Hid (PfxAt w3 B pz ∧ Below w.heap.size w w3) := by
        have b3 : Below w2.heap.size w2 w3 := ((Below.refl _ _).alloc (Nat.le_refl _) _).trans (kE.below (fun q h => by have h' : q = w2.heap.size := h; omega) (by rw [World.size_alloc]; omega))
        exact ⟨H2.out.1.below b3, H2.out.2.trans (b3.mono H2.out.2.size)⟩
      clear hRE kE
      go_wp2_with (refine wpList_store_pfx (.tmp 2) (.tmp 34) rfl rfl B pz pz rfl rfl H3.out.1 rfl ?_)
      intro wE hRE kE
      have HE : Hid (PfxAt wE B pz ∧ Below w.heap.size w wE) := ⟨hRE, H3.out.2.trans (kE.below (fun q h => by have h' : q = B := h; have := H0.out.2.2; omega) H3.out.2.size)⟩
      clear hRE kE
      go_wp2
      (try simp only [Exit.inBlock, Exit.then])
      refine bodyPost_ret (results_pfx_tmp2 rfl _ _ B _ rfl HE.out.1) rfl ?_
      exact ⟨by rw [HP.out]; rfl, HE.out.2⟩
    | inl Vx =>
      obtain ⟨V, x⟩ := Vx
      have HP1 : Hid (pPF s = pPF2 s k V x ∧ ∀ i, x i < 256) := ⟨by rw [HP0.out, hpi], pIP_lt hpi⟩
      show _
      simp only [ipO]
      clear hpi
      obtain ⟨O, hO⟩ : ∃ O, O = w2.heap.size := ⟨_, rfl⟩
      have HO : Hid (w2.heap.size = O) := hO.symm
      clear hO
      go_wp2_with (refine wpList_store_ipr (.tmp 6) (.tmp 29) rfl rfl w2.heap.size 0 (fun _ => 0) V x rfl rfl (ipr_new w2 0 (fun _ => 0)) rfl ?_)
      intro w3 hRE kE
      rw [HO.out] at hRE kE ⊢
      have H3 : Hid (IprAt w3 O V x ∧ PfxAt w3 B pz ∧ Below w.heap.size w w3) := by
        have b3 : Below w2.heap.size w2 w3 := ((Below.refl _ _).alloc (Nat.le_refl _) _).trans (kE.below (fun q h => by have h' : q = O := h; have := HO.out; omega) (by rw [World.size_alloc]; omega))
        exact ⟨hRE, H2.out.1.below b3, H2.out.2.trans (b3.mono H2.out.2.size)⟩
      clear hRE kE
      have x9 : IntKind.i64.wrap ((k : Int) + 1) = (k : Int) + 1 := i64_s _ (by omega) (by have := HK.out.1; have := HS.out; omega)
      obtain ⟨R, hR⟩ : ∃ R, R = w3.heap.size := ⟨_, rfl⟩
      obtain ⟨w4, hw4⟩ : ∃ w4, w4 = w3.alloc (.cells (rdC s (k + 1)) 45) := ⟨_, rfl⟩
      have H4 : Hid (RdAt w4 R s (k + 1) ∧ IprAt w4 O V x ∧ PfxAt w4 B pz ∧ Below w.heap.size w w4) := by
        have b4 : Below w3.heap.size w3 w4 := by rw [hw4]; exact (Below.refl _ _).alloc (Nat.le_refl _) _
        exact ⟨by rw [hw4, hR]; exact heap_alloc_new _ _, H3.out.1.below b4, H3.out.2.1.below b4, H3.out.2.2.trans (b4.mono H3.out.2.2.size)⟩
      have HR3 : Hid (w3.heap.size = R) := hR.symm
      have HW4 : Hid (w3.alloc (.cells #[.string s, .int .i64 ((k : Int) + 1)] 45) = w4) := hw4.symm
      have HRB : Hid (R ≠ B ∧ w.heap.size ≤ R) := by
        have h1 := H3.out.2.1.lt
        have h2 := H3.out.2.2.size
        exact ⟨by omega, by omega⟩
      clear hR hw4
      go_upto_region 10 with fail
      (try rw [HR3.out])
      (try rw [HW4.out])
      go_wp2_with (refine wpList_load_ipr (.tmp 6) rfl O V x rfl H4.out.2.1 rfl ?_)
      refine (abits_any V x w4).mono ?_
      rintro e w5 ⟨rfl, hb⟩
      have H5 : Hid (RdAt w5 R s (k + 1) ∧ IprAt w5 O V x ∧ PfxAt w5 B pz ∧ Below w.heap.size w w5) := ⟨H4.out.1.below hb, H4.out.2.1.below hb, H4.out.2.2.1.below hb, H4.out.2.2.2.trans (hb.mono H4.out.2.2.2.size)⟩
      clear hb
      obtain ⟨q, hq⟩ : ∃ q, scP s dgB (k + 1) = q := ⟨_, rfl⟩
      have HQ : Hid (scP s dgB (k + 1) = q ∧ k + 1 ≤ q ∧ q ≤ s.size) := ⟨hq, by rw [← hq]; exact scP_ge _ _ _, by rw [← hq]; exact scP_le HK.out.1⟩
      obtain ⟨bv, hbv⟩ : ∃ bv : Nat, bitV V = bv := ⟨_, rfl⟩
      have HBV : Hid (bitV V = bv) := hbv
      rw [hbv]
      clear hq hbv
      go_wp2_with fail
      refine (number_any R s (k + 1) bv 45 w5 H5.out.1 HK.out.1 (by have := HS.out; omega)).mono ?_
      rintro e w6 ⟨rfl, hn⟩
      have H6' : Hid (IprAt w6 O V x ∧ PfxAt w6 B pz ∧ Below w.heap.size w w6) := ⟨H5.out.2.1.ch hn.2 (by have h1 := H3.out.1.lt; have h2 := HR3.out; omega), H5.out.2.2.1.ch hn.2 (fun e => HRB.out.1 e.symm), H5.out.2.2.2.trans (hn.2.below (fun q h => by have h' : q = R := h; have := HRB.out; omega) H5.out.2.2.2.size)⟩
      by_cases h1 : q = k + 1
      · have hz := nm_no (most := bv) (why := 45) (HQ.out.1.trans h1)
        have HP : Hid (pPF s = .inr ((hrE s (k + 1)).1, k + 1)) := by show _ = _; rw [HP1.out.1]; unfold pPF2; rw [if_pos (HQ.out.1.trans h1)]
        rw [hz.2] at hn
        rw [hz.1]
        have H6 : Hid (RdAt w6 R s (k + 1) ∧ PfxAt w6 B pz ∧ Below w.heap.size w w6) := ⟨hn.1, H6'.out.2⟩
        obtain ⟨er, her⟩ : ∃ er : Nat, er = (hrE s (k + 1)).1 := ⟨_, rfl⟩
        have e1 : (((er : Nat) : Int) != 0) = true := by rw [her]; unfold hrE; split <;> rfl
        have e2 : (((er : Nat) : Int) == 0) = false := by rw [her]; unfold hrE; split <;> rfl
        have HP2 : Hid (pPF s = .inr (er, k + 1)) := by rw [her]; exact HP.out
        rw [← her]
        clear hz hn h1 her HP
        go_upto_region 14 with fail
        refine MixH.start (fun A => RdAt A R s (k + 1) ∧ PfxAt A B pz ∧ Below w.heap.size w A) (by kernel_rfl) ?_
        obtain ⟨wA, hwA⟩ : ∃ W_, W_ = w6.drew := ⟨_, rfl⟩
        have bdr : Below w6.heap.size w6 wA := by rw [hwA]; exact (Below.refl _ _).drew
        have hS : RdAt wA R s (k + 1) ∧ PfxAt wA B pz ∧ Below w.heap.size w wA := ⟨H6.out.1.below bdr, H6.out.2.1.below bdr, H6.out.2.2.trans (bdr.mono H6.out.2.2.size)⟩
        rw [← hwA]
        clear hwA bdr
        refine MixH.takes [true, true, true] 4 (by kernel_rfl) (by kernel_rfl) (by decide) (by kernel_rfl) hS (fun K hK => ?_)
        simp only [Mix.pick]
        repeat (go_big_quiet_step (fail))
        refine wpQuiet_nil (hK _ ?_)
        clear hK K
        refine MixH.take 3 3 _ (.int .i64 ((k + 1) : Nat)) rfl (by kernel_rfl) (by kernel_rfl) (by kernel_rfl) (by kernel_rfl) (yields_int (.tmp 54) rfl ⟨R, 1, none⟩ (.int .i64 ((k + 1) : Nat)) rfl rfl (fun A hA => hA.1.c1)) hS (fun a' ha => ?_)
        simp only [Act.put, List.setIfInBounds_toArray, List.set_cons_succ, List.set_cons_zero] at ha
        subst ha
        refine MixH.one [false, false, false, false, true] 2 4 _ rfl rfl (by kernel_rfl) (by kernel_rfl) (fun K hK => ?_)
        simp only [Mix.pick]
        go_wp2_with (refine wpList_store_pfx (.tmp 2) (.tmp 52) rfl rfl B pz pz rfl rfl hS.2.1 rfl ?_)
        intro wE hRE kE
        replace hS : RdAt wE R s (k + 1) ∧ PfxAt wE B pz ∧ Below w.heap.size w wE := ⟨hS.1.ch kE (by have := HRB.out; omega), hRE, hS.2.2.trans (kE.below (fun q h => by have h' : q = B := h; have := H0.out.2.2; omega) hS.2.2.size)⟩
        clear hRE kE
        go_wp2_with fail
        refine ⟨rfl, hK _ _ hS ?_⟩
        clear hK K
        refine MixH.takes [false, false, false, false, false, true, true] 0 (by kernel_rfl) (by kernel_rfl) (by decide) (by kernel_rfl) hS (fun K hK => ?_)
        simp only [Mix.pick]
        repeat (go_big_quiet_step (fail))
        refine wpQuiet_nil (hK _ ?_)
        clear hK K
        refine MixH.done (by kernel_rfl) ?_
        have HE : Hid (RdAt wE R s (k + 1) ∧ PfxAt wE B pz ∧ Below w.heap.size w wE) := hS
        clear hS
        go_wp2
        (try simp only [Exit.inBlock, Exit.then])
        refine bodyPost_ret (results_pfx_tmp2 rfl _ _ B _ rfl HE.out.2.1) rfl ?_
        exact ⟨by rw [HP2.out]; rfl, HE.out.2.2⟩
      · by_cases h2 : dcm s (k + 1) q bv < 0
        · have hz := nm_why (why := 45) HQ.out.1 h1 h2
          have HP2 : Hid (pPF s = .inr (45, k + 1)) := by show _ = _; rw [HP1.out.1]; unfold pPF2; rw [HQ.out.1, if_neg h1, HBV.out, if_pos h2]
          rw [hz.2] at hn
          rw [hz.1]
          have H6 : Hid (RdAt w6 R s (k + 1) ∧ PfxAt w6 B pz ∧ Below w.heap.size w w6) := ⟨hn.1, H6'.out.2⟩
          clear hz hn h1 h2
          go_upto_region 14 with fail
          refine MixH.start (fun A => RdAt A R s (k + 1) ∧ PfxAt A B pz ∧ Below w.heap.size w A) (by kernel_rfl) ?_
          obtain ⟨wA, hwA⟩ : ∃ W_, W_ = w6.drew := ⟨_, rfl⟩
          have bdr : Below w6.heap.size w6 wA := by rw [hwA]; exact (Below.refl _ _).drew
          have hS : RdAt wA R s (k + 1) ∧ PfxAt wA B pz ∧ Below w.heap.size w wA := ⟨H6.out.1.below bdr, H6.out.2.1.below bdr, H6.out.2.2.trans (bdr.mono H6.out.2.2.size)⟩
          rw [← hwA]
          clear hwA bdr
          refine MixH.takes [true, true, true] 4 (by kernel_rfl) (by kernel_rfl) (by decide) (by kernel_rfl) hS (fun K hK => ?_)
          simp only [Mix.pick]
          repeat (go_big_quiet_step (fail))
          refine wpQuiet_nil (hK _ ?_)
          clear hK K
          refine MixH.take 3 3 _ (.int .i64 ((k + 1) : Nat)) rfl (by kernel_rfl) (by kernel_rfl) (by kernel_rfl) (by kernel_rfl) (yields_int (.tmp 54) rfl ⟨R, 1, none⟩ (.int .i64 ((k + 1) : Nat)) rfl rfl (fun A hA => hA.1.c1)) hS (fun a' ha => ?_)
          simp only [Act.put, List.setIfInBounds_toArray, List.set_cons_succ, List.set_cons_zero] at ha
          subst ha
          refine MixH.one [false, false, false, false, true] 2 4 _ rfl rfl (by kernel_rfl) (by kernel_rfl) (fun K hK => ?_)
          simp only [Mix.pick]
          go_wp2_with (refine wpList_store_pfx (.tmp 2) (.tmp 52) rfl rfl B pz pz rfl rfl hS.2.1 rfl ?_)
          intro wE hRE kE
          replace hS : RdAt wE R s (k + 1) ∧ PfxAt wE B pz ∧ Below w.heap.size w wE := ⟨hS.1.ch kE (by have := HRB.out; omega), hRE, hS.2.2.trans (kE.below (fun q h => by have h' : q = B := h; have := H0.out.2.2; omega) hS.2.2.size)⟩
          clear hRE kE
          go_wp2_with fail
          refine ⟨rfl, hK _ _ hS ?_⟩
          clear hK K
          refine MixH.takes [false, false, false, false, false, true, true] 0 (by kernel_rfl) (by kernel_rfl) (by decide) (by kernel_rfl) hS (fun K hK => ?_)
          simp only [Mix.pick]
          repeat (go_big_quiet_step (fail))
          refine wpQuiet_nil (hK _ ?_)
          clear hK K
          refine MixH.done (by kernel_rfl) ?_
          have HE : Hid (RdAt wE R s (k + 1) ∧ PfxAt wE B pz ∧ Below w.heap.size w wE) := hS
          clear hS
          go_wp2
          (try simp only [Exit.inBlock, Exit.then])
          refine bodyPost_ret (results_pfx_tmp2 rfl _ _ B _ rfl HE.out.2.1) rfl ?_
          exact ⟨by rw [HP2.out]; rfl, HE.out.2.2⟩
        · have hz := nm_yes (why := 45) HQ.out.1 h1 h2
          obtain ⟨n, hn0⟩ : ∃ n : Int, dcm s (k + 1) q bv = n := ⟨_, rfl⟩
          have HP3 : Hid (pPF s = if q ≠ s.size then .inr (41, q) else if vpE ⟨V, x, n⟩ ≠ 0 then .inr (vpE ⟨V, x, n⟩, 0) else .inl ⟨V, x, n⟩) := by
            show _ = _
            rw [HP1.out.1]
            unfold pPF2
            rw [HQ.out.1, if_neg h1, HBV.out, if_neg h2, hn0]
          rw [hz.2] at hn
          rw [hz.1, hn0]
          have H6 : Hid (RdAt w6 R s q ∧ IprAt w6 O V x ∧ PfxAt w6 B pz ∧ Below w.heap.size w w6) := ⟨hn.1, H6'.out⟩
          clear hz hn h1 h2 hn0
          go_wp2_with fail
          refine (end_any R s q w6 H6.out.1).mono ?_
          rintro e w7 ⟨rfl, hn⟩
          have H7 : Hid (RdAt w7 R s q ∧ IprAt w7 O V x ∧ PfxAt w7 B pz ∧ Below w.heap.size w w7) := ⟨rd_no H6.out.1 hn, H6.out.2.1.ch hn (fun h => h), H6.out.2.2.1.ch hn (fun h => h), H6.out.2.2.2.trans (hn.below (fun _ h => h.elim) H6.out.2.2.2.size)⟩
          clear hn
          by_cases h3 : q = s.size
          · have HP4 : Hid (pPF s = if vpE ⟨V, x, n⟩ ≠ 0 then .inr (vpE ⟨V, x, n⟩, 0) else .inl ⟨V, x, n⟩) := by show _ = _; rw [HP3.out, if_neg (by simp [h3])]
            rw [if_pos (by simp [h3])]
            clear h3
            obtain ⟨D, hD⟩ : ∃ D, D = w7.heap.size := ⟨_, rfl⟩
            have HD : Hid (w7.heap.size = D) := hD.symm
            clear hD
            go_wp2_with (first | (refine wpList_load_ipr (.tmp 6) rfl O V x rfl H7.out.2.1 rfl ?_) | (refine wpList_bpf4 (.tmp 56) (.tmp 57) rfl V x n rfl rfl rfl ?_) | (refine wpList_store_pfx (.tmp 11) (.tmp 58) rfl rfl w7.heap.size pz ⟨V, x, n⟩ rfl rfl (pfx_new w7 pz) rfl ?_))
            intro w8 hRE kE
            rw [HD.out] at hRE kE ⊢
            have H8 : Hid (PfxAt w8 D ⟨V, x, n⟩ ∧ PfxAt w8 B pz ∧ Below w.heap.size w w8) := by
              have b3 : Below w7.heap.size w7 w8 := ((Below.refl _ _).alloc (Nat.le_refl _) _).trans (kE.below (fun q h => by have h' : q = D := h; have := HD.out; omega) (by rw [World.size_alloc]; omega))
              exact ⟨hRE, H7.out.2.2.1.below b3, H7.out.2.2.2.trans (b3.mono H7.out.2.2.2.size)⟩
            clear hRE kE
            go_wp2_with (refine wpList_load_pfx (.tmp 11) rfl D ⟨V, x, n⟩ rfl H8.out.1 rfl ?_)
            refine (vpref_any ⟨V, x, n⟩ w8 (fun i _ => HP1.out.2 i)).mono ?_
            rintro e w9 ⟨rfl, hb⟩
            have H9 : Hid (PfxAt w9 D ⟨V, x, n⟩ ∧ PfxAt w9 B pz ∧ Below w.heap.size w w9) := ⟨H8.out.1.below hb, H8.out.2.1.below hb, H8.out.2.2.trans (hb.mono H8.out.2.2.size)⟩
            clear hb
            by_cases h4 : vpE ⟨V, x, n⟩ = 0
            · rw [h4]
              have HP2 : Hid (pPF s = .inl ⟨V, x, n⟩) := by show _ = _; rw [HP4.out, if_neg (by simp [h4])]
              clear h4
              go_wp2_with (first | (refine wpList_load_pfx (.tmp 11) rfl D ⟨V, x, n⟩ rfl H9.out.1 rfl ?_) | (refine wpList_store_pfx (.tmp 2) (.tmp 65) rfl rfl B pz ⟨V, x, n⟩ rfl rfl H9.out.2.1 rfl ?_))
              intro wE hRE kE
              have HE : Hid (PfxAt wE B ⟨V, x, n⟩ ∧ Below w.heap.size w wE) := ⟨hRE, H9.out.2.2.trans (kE.below (fun q h => by have h' : q = B := h; have := H0.out.2.2; omega) H9.out.2.2.size)⟩
              clear hRE kE
              go_wp2
              (try simp only [Exit.inBlock, Exit.then])
              refine bodyPost_ret (results_pfx_tmp2 rfl _ _ B _ rfl HE.out.1) rfl ?_
              exact ⟨by rw [HP2.out]; rfl, HE.out.2⟩
            · obtain ⟨er, her⟩ : ∃ er : Nat, vpE ⟨V, x, n⟩ = er := ⟨_, rfl⟩
              rw [her] at h4 ⊢
              have HP2 : Hid (pPF s = .inr (er, 0)) := by show _ = _; rw [HP4.out, her, if_pos h4]
              have e1 : (((er : Nat) : Int) != 0) = true := by simp [h4]
              clear h4 her
              go_wp2_with (refine wpList_store_pfx (.tmp 2) (.tmp 63) rfl rfl B pz pz rfl rfl H9.out.2.1 rfl ?_)
              intro wE hRE kE
              have HE : Hid (PfxAt wE B pz ∧ Below w.heap.size w wE) := ⟨hRE, H9.out.2.2.trans (kE.below (fun q h => by have h' : q = B := h; have := H0.out.2.2; omega) H9.out.2.2.size)⟩
              clear hRE kE
              go_wp2
              (try simp only [Exit.inBlock, Exit.then])
              refine bodyPost_ret (results_pfx_tmp2 rfl _ _ B _ rfl HE.out.1) rfl ?_
              exact ⟨by rw [HP2.out]; rfl, HE.out.2⟩
          · have HP2 : Hid (pPF s = .inr (41, q)) := by show _ = _; rw [HP3.out, if_pos h3]
            rw [if_neg (by simpa using h3)]
            have H8 : Hid (RdAt w7 R s q ∧ PfxAt w7 B pz ∧ Below w.heap.size w w7) := ⟨H7.out.1, H7.out.2.2⟩
            clear h3
            go_upto_region 14 with fail
            refine MixH.start (fun A => RdAt A R s q ∧ PfxAt A B pz ∧ Below w.heap.size w A) (by kernel_rfl) ?_
            obtain ⟨wA, hwA⟩ : ∃ W_, W_ = w7.drew := ⟨_, rfl⟩
            have bdr : Below w7.heap.size w7 wA := by rw [hwA]; exact (Below.refl _ _).drew
            have hS : RdAt wA R s q ∧ PfxAt wA B pz ∧ Below w.heap.size w wA := ⟨H8.out.1.below bdr, H8.out.2.1.below bdr, H8.out.2.2.trans (bdr.mono H8.out.2.2.size)⟩
            rw [← hwA]
            clear hwA bdr
            refine MixH.takes [true, true, true] 4 (by kernel_rfl) (by kernel_rfl) (by decide) (by kernel_rfl) hS (fun K hK => ?_)
            simp only [Mix.pick]
            repeat (go_big_quiet_step (fail))
            refine wpQuiet_nil (hK _ ?_)
            clear hK K
            refine MixH.take 3 3 _ (.int .i64 (q : Nat)) rfl (by kernel_rfl) (by kernel_rfl) (by kernel_rfl) (by kernel_rfl) (yields_int (.tmp 54) rfl ⟨R, 1, none⟩ (.int .i64 (q : Nat)) rfl rfl (fun A hA => hA.1.c1)) hS (fun a' ha => ?_)
            simp only [Act.put, List.setIfInBounds_toArray, List.set_cons_succ, List.set_cons_zero] at ha
            subst ha
            refine MixH.one [false, false, false, false, true] 2 4 _ rfl rfl (by kernel_rfl) (by kernel_rfl) (fun K hK => ?_)
            simp only [Mix.pick]
            go_wp2_with (refine wpList_store_pfx (.tmp 2) (.tmp 52) rfl rfl B pz pz rfl rfl hS.2.1 rfl ?_)
            intro wE hRE kE
            replace hS : RdAt wE R s q ∧ PfxAt wE B pz ∧ Below w.heap.size w wE := ⟨hS.1.ch kE (by have := HRB.out; omega), hRE, hS.2.2.trans (kE.below (fun q h => by have h' : q = B := h; have := H0.out.2.2; omega) hS.2.2.size)⟩
            clear hRE kE
            go_wp2_with fail
            refine ⟨rfl, hK _ _ hS ?_⟩
            clear hK K
            refine MixH.takes [false, false, false, false, false, true, true] 0 (by kernel_rfl) (by kernel_rfl) (by decide) (by kernel_rfl) hS (fun K hK => ?_)
            simp only [Mix.pick]
            repeat (go_big_quiet_step (fail))
            refine wpQuiet_nil (hK _ ?_)
            clear hK K
            refine MixH.done (by kernel_rfl) ?_
            have HE : Hid (RdAt wE R s q ∧ PfxAt wE B pz ∧ Below w.heap.size w wE) := hS
            clear hS
            go_wp2
            (try simp only [Exit.inBlock, Exit.then])
            refine bodyPost_ret (results_pfx_tmp2 rfl _ _ B _ rfl HE.out.2.1) rfl ?_
            exact ⟨by rw [HP2.out]; rfl, HE.out.2.2⟩
theorem parsePfx_any (s : ByteArray) (w : World) : Calls Tryz.prog 43 #[.string s] w fun r w' => r = .returned (pxO (pPF s)) ∧ Below w.heap.size w w' := by
  by_cases h1 : s.size ≤ 49
  · exact parsePfx_short s w h1
  · exact parsePfx_long s w (by omega)
end Go.Proofs.YteldiggaooeeeaaGreatDoor
namespace Go.Proofs.YteldiggaooeeeaaGreatDoor
open Go.RowKit

theorem same16_congr {a b c d : Nat → Nat} (h1 : ∀ i, i < 16 → a i = c i) (h2 : ∀ i, i < 16 → b i = d i) : same16 a b = same16 c d := by
  refine Bool.eq_iff_iff.2 ?_
  rw [same16_iff, same16_iff]
  exact ⟨fun k i hi => by rw [← h1 i hi, ← h2 i hi]; exact k i hi, fun k i hi => by rw [h1 i hi, h2 i hi]; exact k i hi⟩
theorem vld_congr {V : Int} {x y : Nat → Nat} (h : ∀ i, i < 16 → x i = y i) : vld V x = vld V y := by
  unfold vld
  rw [same16_congr (fun i hi => hdA_congr h 32 hi) h]
theorem vpE_congr {V n : Int} {x y : Nat → Nat} (h : ∀ i, i < 16 → x i = y i) : vpE ⟨V, x, n⟩ = vpE ⟨V, y, n⟩ := by
  unfold vpE mkE
  rw [vld_congr h, same16_congr (fun i hi => hdA_congr h n.toNat hi) h]
theorem idx_app : ∀ (A C : List Nat), (∀ c ∈ A, c < 256 ∧ c ≠ 47) → Lib.indexByte ((A ++ 47 :: C).map UInt8.ofNat) 47 = (A.length : Nat)
  | [], C, _ => rfl
  | a :: A, C, h => by
    have ih := idx_app A C (fun c hc => h c (List.mem_cons_of_mem _ hc))
    obtain ⟨h1, h2⟩ := h a (by simp)
    have hb : (UInt8.ofNat a == 47) = false := by
      rw [beq_eq_false_iff_ne]
      intro e
      have e3 : (UInt8.ofNat a).toNat = a := UInt8.toNat_ofNat_of_lt (by simpa using h1)
      rw [e] at e3
      exact h2 e3.symm
    show Lib.indexByte (UInt8.ofNat a :: (A ++ 47 :: C).map UInt8.ofNat) 47 = _
    unfold Lib.indexByte
    rw [hb, ih, if_neg (by decide), if_neg (by simp)]
    simp
theorem dcm_most {s : ByteArray} {p q most n : Nat} (h : dcm s p q 255 = (n : Int)) (hm : n ≤ most) : dcm s p q most = (n : Int) := by
  unfold dcm at h ⊢
  split at h
  · omega
  · rename_i h1
    rw [if_neg h1]
    split at h
    · omega
    · rw [if_neg (by omega), h]
theorem vp_bits {p : PV} (h : vpE p = 0) : p.n ≤ (bitV p.V : Int) := by
  have hm : mkE p.V p.x p.n = 0 := by
    unfold vpE at h
    split at h
    · assumption
    · exact h
  unfold mkE at hm
  split at hm
  · omega
  · split at hm
    · omega
    · omega
end Go.Proofs.YteldiggaooeeeaaGreatDoor
namespace Go.Proofs.YteldiggaooeeeaaGreatDoor
open Go.RowKit

/-- k digits of the byte i -/
def mcN (s : ByteArray) : Nat → Nat → Nat → (Nat → Nat) → Sum (Nat × (Nat → Nat)) (Nat × Nat)
  | 0, _, p, m => .inl (p, m)
  | k + 1, i, p, m => if s.size ≤ p ∨ 16 ≤ dgV (sB s p) then .inr (hrE s p) else mcN s k i (p + 1) (up1 m i ((16 * m i + dgV (sB s p)) % 256))
/-- n bytes from the byte i on -/
def mcB (s : ByteArray) : Nat → Nat → Nat → (Nat → Nat) → Sum (Nat → Nat) (Nat × Nat)
  | 0, _, _, m => .inl m
  | n + 1, i, p, m => if 0 < i ∧ ¬ (p < s.size ∧ sB s p = 58) then .inr (hrE s p) else
    match mcN s 2 i (if 0 < i then p + 1 else p) m with
    | .inr e => .inr e
    | .inl (q, m') => mcB s n (i + 1) q m'
/-- ParseMac in numbers -/
def pMC (s : ByteArray) : Sum (Nat → Nat) (Nat × Nat) := if 17 < s.size then .inr (2, 17) else mcB s 6 0 0 mz
/-- ParseMac's answer -/
def mcO (r : Sum (Nat → Nat) (Nat × Nat)) : Value := match r with
  | .inl m => .tuple #[.agg (macC m), .int .i64 0, .int .i64 0]
  | .inr (e, p) => .tuple #[.agg (macC mz), .int .i64 (e : Nat), .int .i64 (p : Nat)]
theorem mcB_go {s : ByteArray} {n i p q : Nat} {m m' : Nat → Nat} (hc : ¬ (0 < i ∧ ¬ (p < s.size ∧ sB s p = 58))) (hN : mcN s 2 i (if 0 < i then p + 1 else p) m = .inl (q, m')) : mcB s (n + 1) i p m = mcB s n (i + 1) q m' := by
  rw [mcB, if_neg hc, hN]
theorem mcB_no {s : ByteArray} {n i p : Nat} {m : Nat → Nat} (hc : 0 < i ∧ ¬ (p < s.size ∧ sB s p = 58)) : mcB s (n + 1) i p m = .inr (hrE s p) := by
  rw [mcB, if_pos hc]
theorem mcB_er {s : ByteArray} {n i p : Nat} {m : Nat → Nat} {e : Nat × Nat} (hc : ¬ (0 < i ∧ ¬ (p < s.size ∧ sB s p = 58))) (hN : mcN s 2 i (if 0 < i then p + 1 else p) m = .inr e) : mcB s (n + 1) i p m = .inr e := by
  rw [mcB, if_neg hc, hN]
theorem dgV_hd {k : Nat} (h : k < 16) : dgV (hd k) = k := by
  have : ∀ i : Fin 16, dgV (hd i.val) = i.val := by decide +kernel
  exact this ⟨k, h⟩
theorem sB_txB {L : List Nat} (h : ∀ c ∈ L, c < 256) {j : Nat} (hj : j < L.length) : sB (txB L) j = L.getD j 0 := by
  unfold sB
  rw [txB_data, List.getD_eq_getElem?_getD, List.getD_eq_getElem?_getD, List.getElem?_map, List.getElem?_eq_getElem hj]
  show (UInt8.ofNat L[j]).toNat = L[j]
  exact UInt8.toNat_ofNat_of_lt (by simpa using h _ (List.getElem_mem hj))
section
variable {m : Nat → Nat} (hm : ∀ i, i < 6 → m i < 256)
include hm
theorem prM_at {j : Nat} (hj : j < 17) : sB (txB (prM m 6)) j = (prM m 6).getD j 0 := sB_txB (prM_lt hm 6 (Nat.le_refl _)) (by rw [prM_len]; omega)
theorem prM_a {i : Nat} (hi : i < 6) : sB (txB (prM m 6)) (3 * i) = hd (m i / 16) := by
  rw [prM_at hm (by omega), prM_list]
  rcases (show i = 0 ∨ i = 1 ∨ i = 2 ∨ i = 3 ∨ i = 4 ∨ i = 5 by omega) with rfl | rfl | rfl | rfl | rfl | rfl <;> rfl
theorem prM_b {i : Nat} (hi : i < 6) : sB (txB (prM m 6)) (3 * i + 1) = hd (m i % 16) := by
  rw [prM_at hm (by omega), prM_list]
  rcases (show i = 0 ∨ i = 1 ∨ i = 2 ∨ i = 3 ∨ i = 4 ∨ i = 5 by omega) with rfl | rfl | rfl | rfl | rfl | rfl <;> rfl
theorem prM_c {i : Nat} (hi : i < 6) (h0 : 0 < i) : sB (txB (prM m 6)) (3 * i - 1) = 58 := by
  rw [prM_at hm (by omega), prM_list]
  rcases (show i = 1 ∨ i = 2 ∨ i = 3 ∨ i = 4 ∨ i = 5 by omega) with rfl | rfl | rfl | rfl | rfl <;> rfl
omit hm in
theorem prM_size (m : Nat → Nat) : (txB (prM m 6)).size = 17 := by rw [txB_size, prM_len]
theorem mcB_step {i : Nat} (hi : i < 6) (m0 : Nat → Nat) (h0 : m0 i = 0) (n : Nat) : mcB (txB (prM m 6)) (n + 1) i (3 * i - 1) m0 = mcB (txB (prM m 6)) n (i + 1) (3 * i + 2) (up1 (up1 m0 i (m i / 16)) i (m i)) := by
  have hs := prM_size m
  have h256 := hm i hi
  have ha := prM_a hm hi
  have hb := prM_b hm hi
  have da := dgV_hd (show m i / 16 < 16 by omega)
  have db := dgV_hd (show m i % 16 < 16 by omega)
  have hc : ¬ (0 < i ∧ ¬ (3 * i - 1 < (txB (prM m 6)).size ∧ sB (txB (prM m 6)) (3 * i - 1) = 58)) := by
    rintro ⟨h1, h2⟩
    exact h2 ⟨by omega, prM_c hm hi h1⟩
  have hp : (if 0 < i then 3 * i - 1 + 1 else 3 * i - 1) = 3 * i := by split <;> omega
  have hN : mcN (txB (prM m 6)) 2 i (3 * i) m0 = .inl (3 * i + 2, up1 (up1 m0 i (m i / 16)) i (m i)) := by
    show (if (txB (prM m 6)).size ≤ 3 * i ∨ 16 ≤ dgV (sB (txB (prM m 6)) (3 * i)) then _ else mcN _ 1 _ _ _) = _
    rw [if_neg (by rw [ha, da]; omega), ha, da, h0]
    show (if (txB (prM m 6)).size ≤ 3 * i + 1 ∨ 16 ≤ dgV (sB (txB (prM m 6)) (3 * i + 1)) then _ else mcN _ 0 _ _ _) = _
    rw [if_neg (by rw [hb, db]; omega), hb, db]
    show Sum.inl (3 * i + 1 + 1, up1 (up1 m0 i ((16 * 0 + m i / 16) % 256)) i ((16 * up1 m0 i ((16 * 0 + m i / 16) % 256) i + m i % 16) % 256)) = _
    have e1 : (16 * 0 + m i / 16) % 256 = m i / 16 := by omega
    have e2 : up1 m0 i (m i / 16) i = m i / 16 := by unfold up1; rw [if_pos rfl]
    rw [e1, e2, show (16 * (m i / 16) + m i % 16) % 256 = m i by omega]
  exact mcB_go hc (by rw [hp]; exact hN)
theorem mac_back : ∃ y, pMC (txB (prM m 6)) = .inl y ∧ ∀ i, i < 6 → y i = m i := by
  have u : ∀ (f : Nat → Nat) (a b c k : Nat), k ≠ a → up1 (up1 f a b) a c k = f k := fun f a b c k h => by unfold up1; rw [if_neg h, if_neg h]
  have v : ∀ (f : Nat → Nat) (a b c : Nat), up1 (up1 f a b) a c a = c := fun f a b c => by unfold up1; rw [if_pos rfl]
  unfold pMC
  rw [if_neg (by rw [prM_size m]; omega)]
  rw [show (0 : Nat) = 3 * 0 - 1 from rfl, mcB_step hm (i := 0) (by omega) mz rfl 5]
  rw [show 3 * 0 + 2 = 3 * 1 - 1 from rfl, show 0 + 1 = 1 from rfl, mcB_step hm (i := 1) (by omega) _ (by rw [u _ _ _ _ _ (by omega)]; rfl) 4]
  rw [show 3 * 1 + 2 = 3 * 2 - 1 from rfl, show 1 + 1 = 2 from rfl, mcB_step hm (i := 2) (by omega) _ (by rw [u _ _ _ _ _ (by omega), u _ _ _ _ _ (by omega)]; rfl) 3]
  rw [show 3 * 2 + 2 = 3 * 3 - 1 from rfl, show 2 + 1 = 3 from rfl, mcB_step hm (i := 3) (by omega) _ (by rw [u _ _ _ _ _ (by omega), u _ _ _ _ _ (by omega), u _ _ _ _ _ (by omega)]; rfl) 2]
  rw [show 3 * 3 + 2 = 3 * 4 - 1 from rfl, show 3 + 1 = 4 from rfl, mcB_step hm (i := 4) (by omega) _ (by rw [u _ _ _ _ _ (by omega), u _ _ _ _ _ (by omega), u _ _ _ _ _ (by omega), u _ _ _ _ _ (by omega)]; rfl) 1]
  rw [show 3 * 4 + 2 = 3 * 5 - 1 from rfl, show 4 + 1 = 5 from rfl, mcB_step hm (i := 5) (by omega) _ (by rw [u _ _ _ _ _ (by omega), u _ _ _ _ _ (by omega), u _ _ _ _ _ (by omega), u _ _ _ _ _ (by omega), u _ _ _ _ _ (by omega)]; rfl) 0]
  refine ⟨_, rfl, fun i hi => ?_⟩
  rcases (show i = 0 ∨ i = 1 ∨ i = 2 ∨ i = 3 ∨ i = 4 ∨ i = 5 by omega) with rfl | rfl | rfl | rfl | rfl | rfl <;> simp [up1]
end
end Go.Proofs.YteldiggaooeeeaaGreatDoor
namespace Go.Proofs.YteldiggaooeeeaaGreatDoor
open Go.RowKit Go.Maps

theorem results_mac_tmp2 {fn : Func} {p u0 u1 : Tmp} (h : fn.results = #[.cell p 40, .tmp u0, .tmp u1]) (tmps : Array Value) (w : World) (O : Nat) (f : Nat → Nat) (hp : tmps.getD p undef = .pointer (some ⟨O, 0, none⟩)) (hb : MacAt w O f) :
    (results fn tmps).run Tryz.prog w = .ok (.tuple #[.agg (macC f), tmps.getD u0 undef, tmps.getD u1 undef]) w := by
  have hp' : tmps[p]?.getD undef = .pointer (some ⟨O, 0, none⟩) := by simpa using hp
  simp [results, h, hp', asAddr, run_loadVar_row w O _ 40 (macC f) _ _ hb Tryz.underlying40 rfl Tryz.size_mac]
theorem macC_set (m : Nat → Nat) (i v : Nat) (h : i < 6) : (macC m).setIfInBounds i (.int .u8 (v : Nat)) = macC (up1 m i v) := by
  rcases (show i = 0 ∨ i = 1 ∨ i = 2 ∨ i = 3 ∨ i = 4 ∨ i = 5 by omega) with rfl | rfl | rfl | rfl | rfl | rfl <;> simp [macC, up1]
theorem macC_at (m : Nat → Nat) (i : Nat) (h : i < 6) : (macC m)[i]? = some (.int .u8 (m i : Nat)) := by
  rcases (show i = 0 ∨ i = 1 ∨ i = 2 ∨ i = 3 ∨ i = 4 ∨ i = 5 by omega) with rfl | rfl | rfl | rfl | rfl | rfl <;> rfl
theorem MacAt.set {w : World} {O : Nat} {m : Nat → Nat} (h : MacAt w O m) (i v : Nat) (hi : i < 6) : MacAt (w.setCell ⟨O, i, none⟩ (.int .u8 (v : Nat))) O (up1 m i v) := by
  have k := heap_setCell_same w O i _ _ (.int .u8 (v : Nat)) h
  rw [macC_set m i v hi] at k
  exact k
theorem or_nib (m d : Nat) (hd : d < 16) : bits BinOp.or IntKind.u8 ((m : Int) * 16 % 256) (d : Int) = (((16 * m + d) % 256 : Nat) : Int) := by
  have k : ∀ a b : Fin 16, 16 * a.val ||| b.val = 16 * a.val + b.val := by decide +kernel
  have h := k ⟨m % 16, Nat.mod_lt _ (by omega)⟩ ⟨d, hd⟩
  have e1 : ((m : Int) * 16 % 256) = ((16 * (m % 16) : Nat) : Int) := by omega
  rw [e1, Go.u8_or_nat _ _ (by omega) (by omega)]
  congr 1
  have h' : 16 * (m % 16) ||| d = 16 * (m % 16) + d := h
  rw [h']
  omega
/-- the reader, the address read so far, the answer's block -/
def MS (w A : World) (B R M : Nat) (s : ByteArray) (p : Nat) (m : Nat → Nat) : Prop := RdAt A R s p ∧ MacAt A M m ∧ MacAt A B mz ∧ Below w.heap.size w A
theorem MS.no {w A A' : World} {B R M : Nat} {s : ByteArray} {p : Nat} {m : Nat → Nat} (h : MS w A B R M s p m) (c : NoCh A A') : MS w A' B R M s p m := ⟨rd_no h.1 c, h.2.1.ch c (fun h => h), h.2.2.1.ch c (fun h => h), h.2.2.2.trans (c.below (fun _ h => h.elim) h.2.2.2.size)⟩
theorem MS.rd {w A A' : World} {B R M : Nat} {s : ByteArray} {p q : Nat} {m : Nat → Nat} (h : MS w A B R M s p m) (h1 : M ≠ R) (h2 : B ≠ R) (h3 : w.heap.size ≤ R) (c : RdAt A' R s q ∧ Ch (fun k => k = R) A A') : MS w A' B R M s q m := ⟨c.1, h.2.1.ch c.2 h1, h.2.2.1.ch c.2 h2, h.2.2.2.trans (c.2.below (fun x hx => by have h' : x = R := hx; omega) h.2.2.2.size)⟩
theorem mcN_step {s : ByteArray} {k i p : Nat} {m : Nat → Nat} (h : ¬ (s.size ≤ p ∨ 16 ≤ dgV (sB s p))) : mcN s (k + 1) i p m = mcN s k i (p + 1) (up1 m i ((16 * m i + dgV (sB s p)) % 256)) := by rw [mcN, if_neg h]
theorem mcN_no {s : ByteArray} {k i p : Nat} {m : Nat → Nat} (h : s.size ≤ p ∨ 16 ≤ dgV (sB s p)) : mcN s (k + 1) i p m = .inr (hrE s p) := by rw [mcN, if_pos h]
theorem hrE_at {s : ByteArray} {p : Nat} (h : p ≤ s.size) : hrE s p = ((hrE s p).1, p) := by unfold hrE; split <;> simp; omega
set_option maxHeartbeats 1600000 in
set_option maxRecDepth 100000 in
theorem parseMac_long (s : ByteArray) (w : World) (hs : 17 < s.size) : Calls Tryz.prog 45 #[.string s] w fun r w' => r = .returned (mcO (pMC s)) ∧ Below w.heap.size w w' := by
  have HP : Hid (pMC s = .inr (2, 17)) := by show _ = _; unfold pMC; rw [if_pos hs]
  have q0 : decide ((17 : Int) < (s.size : Int)) = true := decide_eq_true (by omega)
  have q1 : decide (17 < s.size) = true := decide_eq_true hs
  have q2 : (17 : Int) < (s.size : Int) := by omega
  have HN : Hid (MacAt (w.alloc (.cells (macC mz) 40)) w.heap.size mz ∧ Below w.heap.size w (w.alloc (.cells (macC mz) 40))) := ⟨mac_new w mz, (Below.refl _ _).alloc (Nat.le_refl _) _⟩
  clear hs
  go_enter Tryz.func45, Tryz.ntmps45
  go_wp2_with (refine wpList_store_mac (.tmp 2) (.tmp 11) rfl rfl w.heap.size mz mz rfl rfl HN.out.1 rfl ?_)
  intro wE hRE kE
  have HE : Hid (MacAt wE w.heap.size mz ∧ Below w.heap.size w wE) := ⟨hRE, HN.out.2.trans (kE.below (fun q h => by have h' : q = w.heap.size := h; omega) HN.out.2.size)⟩
  clear hRE kE
  go_wp2
  (try simp only [Exit.inBlock, Exit.then])
  refine bodyPost_ret (results_mac_tmp2 rfl _ _ w.heap.size mz rfl HE.out.1) rfl ?_
  exact ⟨by rw [HP.out]; rfl, HE.out.2⟩
theorem wlM_at (w : World) (s : ByteArray) : MS w (((w.alloc (.cells (macC mz) 40)).alloc (.cells (rdC s 0) 45)).alloc (.cells (macC mz) 40)) w.heap.size (w.heap.size + 1) (w.heap.size + 2) s 0 mz := by
  have a1 := mac_new w mz
  have b1 : Below w.heap.size w (w.alloc (.cells (macC mz) 40)) := (Below.refl _ _).alloc (Nat.le_refl _) _
  obtain ⟨w1, hw1⟩ : ∃ w1, w1 = w.alloc (.cells (macC mz) 40) := ⟨_, rfl⟩
  have z1 : w1.heap.size = w.heap.size + 1 := by rw [hw1, World.size_alloc]
  rw [← hw1] at a1 b1 ⊢
  have a2 : RdAt (w1.alloc (.cells (rdC s 0) 45)) w1.heap.size s 0 := heap_alloc_new _ _
  have b2 : Below w1.heap.size w1 (w1.alloc (.cells (rdC s 0) 45)) := (Below.refl _ _).alloc (Nat.le_refl _) _
  obtain ⟨w2, hw2⟩ : ∃ w2, w2 = w1.alloc (.cells (rdC s 0) 45) := ⟨_, rfl⟩
  have z2 : w2.heap.size = w.heap.size + 2 := by rw [hw2, World.size_alloc, z1]
  rw [← hw2] at a2 b2 ⊢
  have a3 := mac_new w2 mz
  have b3 : Below w2.heap.size w2 (w2.alloc (.cells (macC mz) 40)) := (Below.refl _ _).alloc (Nat.le_refl _) _
  rw [z1] at a2
  rw [z2] at a3
  exact ⟨a2.below b3, a3, (a1.below b2).below b3, (b1.trans (b2.mono (by omega))).trans (b3.mono (by omega))⟩
set_option maxHeartbeats 4000000 in
set_option maxRecDepth 100000 in
theorem parseMac_short (s : ByteArray) (w : World) (hs : s.size ≤ 17) : Calls Tryz.prog 45 #[.string s] w fun r w' => r = .returned (mcO (pMC s)) ∧ Below w.heap.size w w' := by
  have HS : Hid (s.size ≤ 17) := hs
  have HPM : Hid (pMC s = mcB s 6 0 0 mz) := by show _ = _; unfold pMC; rw [if_neg (by omega)]
  have q0 : decide ((17 : Int) < (s.size : Int)) = false := decide_eq_false (by omega)
  have q1 : decide (17 < s.size) = false := decide_eq_false (by omega)
  clear hs
  obtain ⟨W, hW⟩ : ∃ W_, W_ = (((w.alloc (.cells (macC mz) 40)).alloc (.cells (rdC s 0) 45)).alloc (.cells (macC mz) 40)) := ⟨_, rfl⟩
  obtain ⟨B, hB⟩ : ∃ B, B = w.heap.size := ⟨_, rfl⟩
  obtain ⟨R, hR⟩ : ∃ R, R = B + 1 := ⟨_, rfl⟩
  obtain ⟨M, hM⟩ : ∃ M, M = R + 1 := ⟨_, rfl⟩
  have H0 : Hid (MS w W B R M s 0 mz) := by rw [hW, hM, hR, hB]; exact wlM_at w s
  have HW : Hid ((((w.alloc (.cells #[.int .u8 0, .int .u8 0, .int .u8 0, .int .u8 0, .int .u8 0, .int .u8 0] 40)).alloc (.cells #[.string s, .int .i64 0] 45)).alloc (.cells #[.int .u8 0, .int .u8 0, .int .u8 0, .int .u8 0, .int .u8 0, .int .u8 0] 40)) = W) := hW.symm
  have HBW : Hid (w.heap.size = B) := hB.symm
  have HBR : Hid (B + 1 = R) := hR.symm
  have HRM : Hid (R + 1 = M) := hM.symm
  have HNE : Hid (M ≠ R ∧ B ≠ R ∧ B ≠ M ∧ w.heap.size ≤ B ∧ w.heap.size ≤ R) := ⟨by omega, by omega, by omega, by omega, by omega⟩
  clear hW hB hR hM
  go_enter Tryz.func45, Tryz.ntmps45
  go_upto_region 5 with fail
  rw [HBW.out, HW.out]
  rw [HBR.out]
  rw [HRM.out]
  go_wp2_with fail
  go_loopw [14] (fun iv wr => ∃ (i p : Nat) (m : Nat → Nat), i ≤ 6 ∧ iv = .int .i64 (i : Nat) ∧ Hid (mcB s (6 - i) i p m = mcB s 6 0 0 mz ∧ (∀ k, k < 6 → m k < 256) ∧ p ≤ s.size) ∧ Hid (MS w wr B R M s p m)) (fun iv _ => 6 - (intOf iv).toNat)
  case atStart => exact ⟨0, 0, mz, by omega, rfl, ⟨rfl, fun _ _ => by show 0 < 256; decide, Nat.zero_le _⟩, H0.out⟩
  case round =>
    obtain ⟨i, p, m, hi6, rfl, HIV, HMS⟩ := hrel
    have HI : Hid (i ≤ 6) := hi6
    clear hi6
    by_cases hi : i < 6
    · have i1 : decide ((i : Int) < 6) = true := decide_eq_true (by omega)
      have i2 : (i : Int) < 6 := by omega
      have i3 : IntKind.i64.wrap ((i : Int) + 1) = (i : Int) + 1 := i64_s _ (by omega) (by omega)
      have HI6 : Hid (i < 6) := hi
      obtain ⟨nn, hnn⟩ : ∃ nn, 6 - i = nn + 1 := ⟨5 - i, by omega⟩
      have HNN : Hid (6 - i = nn + 1) := hnn
      clear hi hnn
      by_cases h0 : 0 < i
      · have z1 : decide ((0 : Int) < (i : Int)) = true := decide_eq_true (by omega)
        have z2 : (0 : Int) < (i : Int) := by omega
        have HI0 : Hid (0 < i) := h0
        clear h0
        go_wp2_with fail
        obtain ⟨bC, hC⟩ : ∃ bC, (decide (p < s.size) && sB s p == 58) = bC := ⟨_, rfl⟩
        have HSK : Hid (stB s p ⟨#[58]⟩ = bC) := by show _ = _; rw [stB_one HIV.out.2.2]; exact hC
        have HC : Hid ((decide (p < s.size) && sB s p == 58) = bC) := hC
        clear hC
        refine (skip_any R s ⟨#[58]⟩ p wr HMS.out.1 HIV.out.2.2 (by have := HS.out; omega) (by decide)).mono ?_
        rintro e w3 ⟨rfl, hrd, hch⟩
        rw [HSK.out] at hrd ⊢
        cases bC with
        | false =>
          have H3 : Hid (MS w w3 B R M s p m) := HMS.out.rd HNE.out.1 HNE.out.2.1 HNE.out.2.2.2.2 ⟨hrd, hch⟩
          have HF : Hid (pMC s = .inr ((hrE s p).1, p)) := by
            have h1 := HIV.out.1
            have h2 := HC.out
            rw [HNN.out, mcB_no ⟨HI0.out, fun k => by simp at h2; exact h2 k.1 k.2⟩, hrE_at HIV.out.2.2] at h1
            exact HPM.out.trans h1.symm
          clear hrd hch
          go_upto_region 9 with fail
          refine MixH.start (fun A => MS w A B R M s (p) (m)) (by kernel_rfl) ?_
          obtain ⟨wA, hwA⟩ : ∃ W_, W_ = w3.drew := ⟨_, rfl⟩
          have bdr : Below w3.heap.size w3 wA := by rw [hwA]; exact (Below.refl _ _).drew
          have hS : MS w wA B R M s (p) (m) := H3.out.no (Ch.ofBelow bdr)
          rw [← hwA]
          clear hwA bdr
          refine MixH.takes [true, false, true] 5 (by kernel_rfl) (by kernel_rfl) (by decide) (by kernel_rfl) hS (fun K hK => ?_)
          simp only [Mix.pick]
          repeat (go_big_quiet_step (fail))
          refine wpQuiet_nil (hK _ ?_)
          clear hK K
          refine MixH.take 4 3 _ (.int .i64 (p : Nat)) rfl (by kernel_rfl) (by kernel_rfl) (by kernel_rfl) (by kernel_rfl) (yields_int (.tmp 25) rfl ⟨R, 1, none⟩ (.int .i64 (p : Nat)) rfl rfl (fun A hA => hA.1.c1)) hS (fun a' ha => ?_)
          simp only [Act.put, List.setIfInBounds_toArray, List.set_cons_succ, List.set_cons_zero] at ha
          subst ha
          refine MixH.one [false, true] 3 1 _ rfl rfl (by kernel_rfl) (by kernel_rfl) (fun K hK => ?_)
          simp only [Mix.pick]
          go_wp2_with fail
          refine Calls.mono (wrong_any R s (p) wA hS.1 HIV.out.2.2) ?_
          rintro e wR ⟨rfl, hn⟩
          replace hS : MS w wR B R M s (p) (m) := hS.no hn
          clear hn
          go_wp2_with fail
          refine ⟨rfl, hK _ _ hS ?_⟩
          clear hK K
          refine MixH.one [false, false, false, false, true] 2 4 _ rfl rfl (by kernel_rfl) (by kernel_rfl) (fun K hK => ?_)
          simp only [Mix.pick]
          go_wp2_with (refine wpList_store_mac (.tmp 2) (.tmp 23) rfl rfl B mz mz rfl rfl hS.2.2.1 rfl ?_)
          intro wE hRE kE
          replace hS : MS w wE B R M s (p) (m) := ⟨hS.1.ch kE (fun e => HNE.out.2.1 e.symm), hS.2.1.ch kE (fun e => HNE.out.2.2.1 e.symm), hRE, hS.2.2.2.trans (kE.below (fun q h => by have h' : q = B := h; have := HNE.out; omega) hS.2.2.2.size)⟩
          clear hRE kE
          go_wp2_with fail
          refine ⟨rfl, hK _ _ hS ?_⟩
          clear hK K
          refine MixH.takes [false, false, false, false, false, true, true] 0 (by kernel_rfl) (by kernel_rfl) (by decide) (by kernel_rfl) hS (fun K hK => ?_)
          simp only [Mix.pick]
          repeat (go_big_quiet_step (fail))
          refine wpQuiet_nil (hK _ ?_)
          clear hK K
          refine MixH.done (by kernel_rfl) ?_
          have HE : Hid (MS w wE B R M s (p) (m)) := hS
          clear hS
          go_wp2
          (try simp only [Exit.inBlock, Exit.then])
          refine bodyPost_ret (results_mac_tmp2 rfl _ _ B mz rfl HE.out.2.2.1) rfl ?_
          exact ⟨by rw [HF.out]; rfl, HE.out.2.2.2⟩
        | true =>
          have H3 : Hid (MS w w3 B R M s (p + 1) m) := HMS.out.rd HNE.out.1 HNE.out.2.1 HNE.out.2.2.2.2 ⟨hrd, hch⟩
          have HCC : Hid (p < s.size ∧ sB s p = 58) := by have h2 := HC.out; simp at h2; exact h2
          have HCOL : Hid (¬ (0 < i ∧ ¬ (p < s.size ∧ sB s p = 58))) := fun k => k.2 HCC.out
          have HP1 : Hid (p + 1 ≤ s.size ∧ (if 0 < i then p + 1 else p) = p + 1) := ⟨HCC.out.1, if_pos HI0.out⟩
          have HER : Hid (∀ e, mcN s 2 i (p + 1) m = .inr e → pMC s = .inr e) := fun e he => by
            have h1 := HIV.out.1
            rw [HNN.out, mcB_er HCOL.out (by rw [HP1.out.2]; exact he)] at h1
            rw [HPM.out, ← h1]
          clear hrd hch
          go_wp2_with fail
          go_loopw [27] (fun jv wr => ∃ (j p' : Nat) (m' : Nat → Nat), j ≤ 2 ∧ jv = .int .i64 (j : Nat) ∧ Hid (mcN s (2 - j) i p' m' = mcN s 2 i (p + 1) m ∧ (∀ k, k < 6 → m' k < 256) ∧ p' ≤ s.size) ∧ Hid (MS w wr B R M s p' m')) (fun jv _ => 2 - (intOf jv).toNat)
          case atStart => exact ⟨0, p + 1, m, by omega, rfl, ⟨rfl, HIV.out.2.1, HP1.out.1⟩, H3.out⟩
          case round =>
            obtain ⟨j, p', m', hj2, rfl, HJ, HM⟩ := hrel
            have HJ2 : Hid (j ≤ 2) := hj2
            clear hj2
            by_cases hj : j < 2
            · have j1 : decide ((j : Int) < 2) = true := decide_eq_true (by omega)
              have j2 : (j : Int) < 2 := by omega
              have j3 : IntKind.i64.wrap ((j : Int) + 1) = (j : Int) + 1 := i64_s _ (by omega) (by omega)
              obtain ⟨kk, hkk⟩ : ∃ kk, 2 - j = kk + 1 := ⟨1 - j, by omega⟩
              have HKK : Hid (2 - j = kk + 1 ∧ 2 - (j + 1) = kk ∧ j < 2) := ⟨hkk, by omega, hj⟩
              clear hj hkk
              go_wp2_with fail
              refine (ended_any R s p' wr HM.out.1).mono ?_
              rintro e w5 ⟨rfl, hn⟩
              have H5 : Hid (MS w w5 B R M s p' m') := HM.out.no hn
              clear hn
              by_cases hE : p' = s.size
              · have HBE : Hid ((p' == s.size) = true) := by show _ = _; simp [hE]
                have HF : Hid (pMC s = .inr ((hrE s p').1, p')) := by
                  have h1 := HJ.out.1
                  rw [HKK.out.1, mcN_no (.inl (by omega)), hrE_at HJ.out.2.2] at h1
                  exact HER.out _ h1.symm
                rw [HBE.out]
                clear hE
                go_upto_region 13 with fail
                refine MixH.start (fun A => MS w A B R M s (p') (m')) (by kernel_rfl) ?_
                obtain ⟨wA, hwA⟩ : ∃ W_, W_ = w5.drew := ⟨_, rfl⟩
                have bdr : Below w5.heap.size w5 wA := by rw [hwA]; exact (Below.refl _ _).drew
                have hS : MS w wA B R M s (p') (m') := H5.out.no (Ch.ofBelow bdr)
                rw [← hwA]
                clear hwA bdr
                refine MixH.takes [true, false, true] 5 (by kernel_rfl) (by kernel_rfl) (by decide) (by kernel_rfl) hS (fun K hK => ?_)
                simp only [Mix.pick]
                repeat (go_big_quiet_step (fail))
                refine wpQuiet_nil (hK _ ?_)
                clear hK K
                refine MixH.take 4 3 _ (.int .i64 (p' : Nat)) rfl (by kernel_rfl) (by kernel_rfl) (by kernel_rfl) (by kernel_rfl) (yields_int (.tmp 40) rfl ⟨R, 1, none⟩ (.int .i64 (p' : Nat)) rfl rfl (fun A hA => hA.1.c1)) hS (fun a' ha => ?_)
                simp only [Act.put, List.setIfInBounds_toArray, List.set_cons_succ, List.set_cons_zero] at ha
                subst ha
                refine MixH.one [false, true] 3 1 _ rfl rfl (by kernel_rfl) (by kernel_rfl) (fun K hK => ?_)
                simp only [Mix.pick]
                go_wp2_with fail
                refine Calls.mono (wrong_any R s (p') wA hS.1 HJ.out.2.2) ?_
                rintro e wR ⟨rfl, hn⟩
                replace hS : MS w wR B R M s (p') (m') := hS.no hn
                clear hn
                go_wp2_with fail
                refine ⟨rfl, hK _ _ hS ?_⟩
                clear hK K
                refine MixH.one [false, false, false, false, true] 2 4 _ rfl rfl (by kernel_rfl) (by kernel_rfl) (fun K hK => ?_)
                simp only [Mix.pick]
                go_wp2_with (refine wpList_store_mac (.tmp 2) (.tmp 38) rfl rfl B mz mz rfl rfl hS.2.2.1 rfl ?_)
                intro wE hRE kE
                replace hS : MS w wE B R M s (p') (m') := ⟨hS.1.ch kE (fun e => HNE.out.2.1 e.symm), hS.2.1.ch kE (fun e => HNE.out.2.2.1 e.symm), hRE, hS.2.2.2.trans (kE.below (fun q h => by have h' : q = B := h; have := HNE.out; omega) hS.2.2.2.size)⟩
                clear hRE kE
                go_wp2_with fail
                refine ⟨rfl, hK _ _ hS ?_⟩
                clear hK K
                refine MixH.takes [false, false, false, false, false, true, true] 0 (by kernel_rfl) (by kernel_rfl) (by decide) (by kernel_rfl) hS (fun K hK => ?_)
                simp only [Mix.pick]
                repeat (go_big_quiet_step (fail))
                refine wpQuiet_nil (hK _ ?_)
                clear hK K
                refine MixH.done (by kernel_rfl) ?_
                have HE : Hid (MS w wE B R M s (p') (m')) := hS
                clear hS
                go_wp2
                (try simp only [Exit.inBlock, Exit.then])
                refine bodyPost_ret (results_mac_tmp2 rfl _ _ B mz rfl HE.out.2.2.1) rfl ?_
                exact ⟨by rw [HF.out]; rfl, HE.out.2.2.2⟩
              · have HBE : Hid ((p' == s.size) = false ∧ p' < s.size) := ⟨by simp [hE], by have := HJ.out.2.2; omega⟩
                rw [HBE.out.1]
                obtain ⟨d, hd⟩ : ∃ d, dgV (sB s p') = d := ⟨_, rfl⟩
                have HDV : Hid (dgV (sB s p') = d ∧ d ≤ 16) := ⟨hd, by rw [← hd]; exact dgV_le _⟩
                clear hE hd
                have c5 := H5.out.1.c1
                have b5 : (p' : Int) < (s.size : Int) := by have := HBE.out.2; omega
                have b6 : (0 : Int) ≤ (p' : Int) := by omega
                go_wp2_with (refine wpList_sB (.tmp 31) (.tmp 33) rfl s p' _ rfl rfl rfl HBE.out.2 rfl ?_)
                refine (digit_any' (sB s p') w5 (sB_lt s p')).mono ?_
                rintro e wz ⟨rfl, rfl⟩
                rw [HDV.out.1]
                clear c5 b5 b6
                by_cases hd : 16 ≤ d
                · have d1 : decide ((16 : Int) ≤ (d : Int)) = true := decide_eq_true (by omega)
                  have d2 : (16 : Int) ≤ (d : Int) := by omega
                  have HF : Hid (pMC s = .inr ((hrE s p').1, p')) := by
                    have h1 := HJ.out.1
                    rw [HKK.out.1, mcN_no (.inr (by rw [HDV.out.1]; exact hd)), hrE_at HJ.out.2.2] at h1
                    exact HER.out _ h1.symm
                  clear hd
                  go_upto_region 13 with fail
                  refine MixH.start (fun A => MS w A B R M s (p') (m')) (by kernel_rfl) ?_
                  obtain ⟨wA, hwA⟩ : ∃ W_, W_ = w5.drew := ⟨_, rfl⟩
                  have bdr : Below w5.heap.size w5 wA := by rw [hwA]; exact (Below.refl _ _).drew
                  have hS : MS w wA B R M s (p') (m') := H5.out.no (Ch.ofBelow bdr)
                  rw [← hwA]
                  clear hwA bdr
                  refine MixH.takes [true, false, true] 5 (by kernel_rfl) (by kernel_rfl) (by decide) (by kernel_rfl) hS (fun K hK => ?_)
                  simp only [Mix.pick]
                  repeat (go_big_quiet_step (fail))
                  refine wpQuiet_nil (hK _ ?_)
                  clear hK K
                  refine MixH.take 4 3 _ (.int .i64 (p' : Nat)) rfl (by kernel_rfl) (by kernel_rfl) (by kernel_rfl) (by kernel_rfl) (yields_int (.tmp 40) rfl ⟨R, 1, none⟩ (.int .i64 (p' : Nat)) rfl rfl (fun A hA => hA.1.c1)) hS (fun a' ha => ?_)
                  simp only [Act.put, List.setIfInBounds_toArray, List.set_cons_succ, List.set_cons_zero] at ha
                  subst ha
                  refine MixH.one [false, true] 3 1 _ rfl rfl (by kernel_rfl) (by kernel_rfl) (fun K hK => ?_)
                  simp only [Mix.pick]
                  go_wp2_with fail
                  refine Calls.mono (wrong_any R s (p') wA hS.1 HJ.out.2.2) ?_
                  rintro e wR ⟨rfl, hn⟩
                  replace hS : MS w wR B R M s (p') (m') := hS.no hn
                  clear hn
                  go_wp2_with fail
                  refine ⟨rfl, hK _ _ hS ?_⟩
                  clear hK K
                  refine MixH.one [false, false, false, false, true] 2 4 _ rfl rfl (by kernel_rfl) (by kernel_rfl) (fun K hK => ?_)
                  simp only [Mix.pick]
                  go_wp2_with (refine wpList_store_mac (.tmp 2) (.tmp 38) rfl rfl B mz mz rfl rfl hS.2.2.1 rfl ?_)
                  intro wE hRE kE
                  replace hS : MS w wE B R M s (p') (m') := ⟨hS.1.ch kE (fun e => HNE.out.2.1 e.symm), hS.2.1.ch kE (fun e => HNE.out.2.2.1 e.symm), hRE, hS.2.2.2.trans (kE.below (fun q h => by have h' : q = B := h; have := HNE.out; omega) hS.2.2.2.size)⟩
                  clear hRE kE
                  go_wp2_with fail
                  refine ⟨rfl, hK _ _ hS ?_⟩
                  clear hK K
                  refine MixH.takes [false, false, false, false, false, true, true] 0 (by kernel_rfl) (by kernel_rfl) (by decide) (by kernel_rfl) hS (fun K hK => ?_)
                  simp only [Mix.pick]
                  repeat (go_big_quiet_step (fail))
                  refine wpQuiet_nil (hK _ ?_)
                  clear hK K
                  refine MixH.done (by kernel_rfl) ?_
                  have HE : Hid (MS w wE B R M s (p') (m')) := hS
                  clear hS
                  go_wp2
                  (try simp only [Exit.inBlock, Exit.then])
                  refine bodyPost_ret (results_mac_tmp2 rfl _ _ B mz rfl HE.out.2.2.1) rfl ?_
                  exact ⟨by rw [HF.out]; rfl, HE.out.2.2.2⟩
                · have d1 : decide ((16 : Int) ≤ (d : Int)) = false := decide_eq_false (by omega)
                  have d2 : ¬ (16 : Int) ≤ (d : Int) := by omega
                  obtain ⟨v, hv⟩ : ∃ v, (16 * m' i + d) % 256 = v := ⟨_, rfl⟩
                  have HV : Hid ((16 * m' i + d) % 256 = v ∧ v < 256 ∧ d < 16 ∧ m' i < 256) := ⟨hv, by rw [← hv]; exact Nat.mod_lt _ (by omega), by omega, HJ.out.2.1 i HI6.out⟩
                  have HN : Hid (mcN s kk i (p' + 1) (up1 m' i v) = mcN s 2 i (p + 1) m) := by
                    have h1 := HJ.out.1
                    rw [HKK.out.1, mcN_step (by rw [HDV.out.1]; have := HBE.out.2; omega), HDV.out.1, hv] at h1
                    exact h1
                  have y1 : (i : Int) < 6 := by have := HI6.out; omega
                  have y2 : (0 : Int) ≤ (i : Int) := by omega
                  have y3 : i < 6 := HI6.out
                  clear hd hv
                  go_upto_region 14 with fail
                  refine MixJ.start (fun A => MS w A B R M s (p') (m')) 13 (by kernel_rfl) ?_
                  obtain ⟨wA, hwA⟩ : ∃ W_, W_ = w5.drew := ⟨_, rfl⟩
                  have bdr : Below w5.heap.size w5 wA := by rw [hwA]; exact (Below.refl _ _).drew
                  have hS : MS w wA B R M s p' m' := H5.out.no (Ch.ofBelow bdr)
                  rw [← hwA]
                  clear hwA bdr
                  refine MixJ.takes [true, true, true, false, false, true, true] 9 (by kernel_rfl) (by kernel_rfl) (by decide) (by kernel_rfl) (by kernel_rfl) hS (fun K hK => ?_)
                  simp only [Mix.pick]
                  repeat (go_big_quiet_step (fail))
                  refine wpQuiet_nil (hK _ ?_)
                  clear hK K
                  refine MixJ.take 8 3 _ (.int .u8 (m' i : Nat)) rfl (by kernel_rfl) (by kernel_rfl) (by kernel_rfl) (by kernel_rfl) (by kernel_rfl) (by kernel_rfl) (yields_by4 (.tmp 44) rfl ⟨M, i, none⟩ (.int .u8 (m' i : Nat)) rfl rfl (fun A hA => by have := hA.2.1.cell i; rw [macC_at m' i HI6.out] at this; exact this)) hS (fun a' ha => ?_)
                  simp only [Act.put, List.setIfInBounds_toArray, List.set_cons_succ, List.set_cons_zero] at ha
                  subst ha
                  refine MixJ.takes [false, false, false, false, true] 7 (by kernel_rfl) (by kernel_rfl) (by decide) (by kernel_rfl) (by kernel_rfl) hS (fun K hK => ?_)
                  simp only [Mix.pick]
                  repeat (go_big_quiet_step (fail))
                  refine wpQuiet_nil (hK _ ?_)
                  clear hK K
                  refine MixJ.take 6 7 _ (.int .i64 (p' : Nat)) rfl (by kernel_rfl) (by kernel_rfl) (by kernel_rfl) (by kernel_rfl) (by kernel_rfl) (by kernel_rfl) (yields_int (.tmp 48) rfl ⟨R, 1, none⟩ (.int .i64 (p' : Nat)) rfl rfl (fun A hA => hA.1.c1)) hS (fun a' ha => ?_)
                  simp only [Act.put, List.setIfInBounds_toArray, List.set_cons_succ, List.set_cons_zero] at ha
                  subst ha
                  refine MixJ.take 5 8 _ (.int .u8 (sB s p' : Nat)) rfl (by kernel_rfl) (by kernel_rfl) (by kernel_rfl) (by kernel_rfl) (by kernel_rfl) (by kernel_rfl) (yields_sBu (.tmp 47) (.tmp 49) rfl .i64 s p' _ rfl rfl rfl HBE.out.2 rfl) hS (fun a' ha => ?_)
                  simp only [Act.put, List.setIfInBounds_toArray, List.set_cons_succ, List.set_cons_zero] at ha
                  subst ha
                  refine MixJ.many [9] 4 (by kernel_rfl) (by decide) (by kernel_rfl) ?_
                  intro i_ hi_
                  simp only [List.mem_cons, List.not_mem_nil, or_false] at hi_
                  subst hi_
                  refine ⟨_, rfl, fun K hK => ?_⟩
                  go_wp2_with fail
                  refine Calls.mono (digit_any' (sB s p') wA (sB_lt s p')) ?_
                  rintro e wz ⟨rfl, rfl⟩
                  rw [HDV.out.1]
                  go_wp2_with fail
                  refine ⟨rfl, hK _ _ (fun _ => hS) ?_⟩
                  clear hK K
                  refine MixJ.takes [false, false, false, false, false, false, false, false, false, false, true, true, true] 1 (by kernel_rfl) (by kernel_rfl) (by decide) (by kernel_rfl) (by kernel_rfl) hS (fun K hK => ?_)
                  simp only [Mix.pick]
                  repeat (go_big_quiet_step (fail))
                  refine wpQuiet_nil (hK _ ?_)
                  clear hK K
                  refine MixJ.many [13] 0 (by kernel_rfl) (by decide) (by kernel_rfl) ?_
                  intro i_ hi_
                  simp only [List.mem_cons, List.not_mem_nil, or_false] at hi_
                  subst hi_
                  refine ⟨_, rfl, fun K hK => ?_⟩
                  have kc : wA.cell? ⟨M, i, none⟩ = some (.int .u8 (m' i : Nat)) := by have := hS.2.1.cell i; rw [macC_at m' i HI6.out] at this; exact this
                  have kf : wA.frozen? ⟨M, i, none⟩ = false := hS.2.1.fz i
                  go_wp2_with fail
                  obtain ⟨wD, hwD⟩ : ∃ W_, W_ = wA.setCell ⟨M, i, none⟩ (.int .u8 (bits BinOp.or IntKind.u8 ((m' i : Int) * 16 % 256) (d : Int))) := ⟨_, rfl⟩
                  have HD9 : Hid (MS w wD B R M s p' (up1 m' i v)) := by
                    have e : bits BinOp.or IntKind.u8 ((m' i : Int) * 16 % 256) (d : Int) = ((v : Nat) : Int) := by rw [or_nib (m' i) d HV.out.2.2.1, HV.out.1]
                    rw [hwD, e]
                    have c : Ch (fun k => k = M) wA (wA.setCell ⟨M, i, none⟩ (.int .u8 (v : Nat))) := (Ch.refl (fun k => k = M) wA).set ⟨M, i, none⟩ _ rfl
                    exact ⟨hS.1.ch c (fun e => HNE.out.1 e.symm), hS.2.1.set i v HI6.out, hS.2.2.1.ch c HNE.out.2.2.1, hS.2.2.2.trans (c.below (fun x hx => by have h' : x = M := hx; have h1 := HNE.out; have h2 := HRM.out; omega) hS.2.2.2.size)⟩
                  rw [← hwD]
                  clear hwD kc kf
                  refine ⟨rfl, hK _ _ (fun q => absurd rfl q) ?_⟩
                  clear hK K
                  refine MixJ.done (by kernel_rfl) ?_
                  clear hS
                  have c9 := HD9.out.1.c1
                  have f9 := HD9.out.1.fz 1
                  have x9 : IntKind.i64.wrap ((p' : Int) + 1) = (p' : Int) + 1 := i64_s _ (by omega) (by have h1 := HBE.out.2; have h2 := HS.out; omega)
                  obtain ⟨wF, hwF⟩ : ∃ wF, wF = wD.setCell ⟨R, 1, none⟩ (.int .i64 ((p' : Int) + 1)) := ⟨_, rfl⟩
                  have HWF : Hid (wD.setCell ⟨R, 1, none⟩ (.int .i64 ((p' : Int) + 1)) = wF) := hwF.symm
                  have HMF : Hid (MS w wF B R M s (p' + 1) (up1 m' i v)) := HD9.out.rd HNE.out.1 HNE.out.2.1 HNE.out.2.2.2.2 ⟨by rw [hwF]; exact HD9.out.1.set (p' + 1), by rw [hwF]; exact (Ch.refl (fun k => k = R) wD).set ⟨R, 1, none⟩ _ rfl⟩
                  clear hwF
                  go_wp2
                  go_roundw
                  case rel => exact ⟨j + 1, p' + 1, up1 m' i v, by have := HKK.out.2.2; omega, by simp, ⟨by rw [HKK.out.2.1]; exact HN.out, fun k hk => by unfold up1; split; exact HV.out.2.1; exact HJ.out.2.1 k hk, HBE.out.2⟩, by rw [HWF.out]; exact HMF.out⟩
                  case measure => have := HKK.out.2.2; simp [intOf]; omega
            · obtain rfl : j = 2 := by have := HJ2.out; omega
              clear hj
              have HN2 : Hid (mcB s (nn + 1) i p m = mcB s nn (i + 1) p' m') := mcB_go HCOL.out (by rw [HP1.out.2]; exact HJ.out.1.symm)
              go_wp2
              go_roundw
              case rel => exact ⟨i + 1, p', m', by have := HI6.out; omega, by simp, ⟨by rw [show 6 - (i + 1) = nn by have := HNN.out; omega, ← HN2.out, ← HNN.out]; exact HIV.out.1, HJ.out.2.1, HJ.out.2.2⟩, HM.out⟩
              case measure => have := HI6.out; simp [intOf]; omega
      · have z1 : decide ((0 : Int) < (i : Int)) = false := decide_eq_false (by omega)
        have z2 : ¬ (0 : Int) < (i : Int) := by omega
        have HI0 : Hid (¬ 0 < i) := h0
        clear h0
        have HCOL : Hid (¬ (0 < i ∧ ¬ (p < s.size ∧ sB s p = 58))) := fun k => HI0.out k.1
        have HP1 : Hid (p ≤ s.size ∧ (if 0 < i then p + 1 else p) = p) := ⟨HIV.out.2.2, if_neg HI0.out⟩
        have HER : Hid (∀ e, mcN s 2 i p m = .inr e → pMC s = .inr e) := fun e he => by
          have h1 := HIV.out.1
          rw [HNN.out, mcB_er HCOL.out (by rw [HP1.out.2]; exact he)] at h1
          rw [HPM.out, ← h1]
        go_wp2_with fail
        go_loopw [27] (fun jv wr => ∃ (j p' : Nat) (m' : Nat → Nat), j ≤ 2 ∧ jv = .int .i64 (j : Nat) ∧ Hid (mcN s (2 - j) i p' m' = mcN s 2 i (p) m ∧ (∀ k, k < 6 → m' k < 256) ∧ p' ≤ s.size) ∧ Hid (MS w wr B R M s p' m')) (fun jv _ => 2 - (intOf jv).toNat)
        case atStart => exact ⟨0, p, m, by omega, rfl, ⟨rfl, HIV.out.2.1, HP1.out.1⟩, HMS.out⟩
        case round =>
          obtain ⟨j, p', m', hj2, rfl, HJ, HM⟩ := hrel
          have HJ2 : Hid (j ≤ 2) := hj2
          clear hj2
          by_cases hj : j < 2
          · have j1 : decide ((j : Int) < 2) = true := decide_eq_true (by omega)
            have j2 : (j : Int) < 2 := by omega
            have j3 : IntKind.i64.wrap ((j : Int) + 1) = (j : Int) + 1 := i64_s _ (by omega) (by omega)
            obtain ⟨kk, hkk⟩ : ∃ kk, 2 - j = kk + 1 := ⟨1 - j, by omega⟩
            have HKK : Hid (2 - j = kk + 1 ∧ 2 - (j + 1) = kk ∧ j < 2) := ⟨hkk, by omega, hj⟩
            clear hj hkk
            go_wp2_with fail
            refine (ended_any R s p' wr HM.out.1).mono ?_
            rintro e w5 ⟨rfl, hn⟩
            have H5 : Hid (MS w w5 B R M s p' m') := HM.out.no hn
            clear hn
            by_cases hE : p' = s.size
            · have HBE : Hid ((p' == s.size) = true) := by show _ = _; simp [hE]
              have HF : Hid (pMC s = .inr ((hrE s p').1, p')) := by
                have h1 := HJ.out.1
                rw [HKK.out.1, mcN_no (.inl (by omega)), hrE_at HJ.out.2.2] at h1
                exact HER.out _ h1.symm
              rw [HBE.out]
              clear hE
              go_upto_region 13 with fail
              refine MixH.start (fun A => MS w A B R M s (p') (m')) (by kernel_rfl) ?_
              obtain ⟨wA, hwA⟩ : ∃ W_, W_ = w5.drew := ⟨_, rfl⟩
              have bdr : Below w5.heap.size w5 wA := by rw [hwA]; exact (Below.refl _ _).drew
              have hS : MS w wA B R M s (p') (m') := H5.out.no (Ch.ofBelow bdr)
              rw [← hwA]
              clear hwA bdr
              refine MixH.takes [true, false, true] 5 (by kernel_rfl) (by kernel_rfl) (by decide) (by kernel_rfl) hS (fun K hK => ?_)
              simp only [Mix.pick]
              repeat (go_big_quiet_step (fail))
              refine wpQuiet_nil (hK _ ?_)
              clear hK K
              refine MixH.take 4 3 _ (.int .i64 (p' : Nat)) rfl (by kernel_rfl) (by kernel_rfl) (by kernel_rfl) (by kernel_rfl) (yields_int (.tmp 40) rfl ⟨R, 1, none⟩ (.int .i64 (p' : Nat)) rfl rfl (fun A hA => hA.1.c1)) hS (fun a' ha => ?_)
              simp only [Act.put, List.setIfInBounds_toArray, List.set_cons_succ, List.set_cons_zero] at ha
              subst ha
              refine MixH.one [false, true] 3 1 _ rfl rfl (by kernel_rfl) (by kernel_rfl) (fun K hK => ?_)
              simp only [Mix.pick]
              go_wp2_with fail
              refine Calls.mono (wrong_any R s (p') wA hS.1 HJ.out.2.2) ?_
              rintro e wR ⟨rfl, hn⟩
              replace hS : MS w wR B R M s (p') (m') := hS.no hn
              clear hn
              go_wp2_with fail
              refine ⟨rfl, hK _ _ hS ?_⟩
              clear hK K
              refine MixH.one [false, false, false, false, true] 2 4 _ rfl rfl (by kernel_rfl) (by kernel_rfl) (fun K hK => ?_)
              simp only [Mix.pick]
              go_wp2_with (refine wpList_store_mac (.tmp 2) (.tmp 38) rfl rfl B mz mz rfl rfl hS.2.2.1 rfl ?_)
              intro wE hRE kE
              replace hS : MS w wE B R M s (p') (m') := ⟨hS.1.ch kE (fun e => HNE.out.2.1 e.symm), hS.2.1.ch kE (fun e => HNE.out.2.2.1 e.symm), hRE, hS.2.2.2.trans (kE.below (fun q h => by have h' : q = B := h; have := HNE.out; omega) hS.2.2.2.size)⟩
              clear hRE kE
              go_wp2_with fail
              refine ⟨rfl, hK _ _ hS ?_⟩
              clear hK K
              refine MixH.takes [false, false, false, false, false, true, true] 0 (by kernel_rfl) (by kernel_rfl) (by decide) (by kernel_rfl) hS (fun K hK => ?_)
              simp only [Mix.pick]
              repeat (go_big_quiet_step (fail))
              refine wpQuiet_nil (hK _ ?_)
              clear hK K
              refine MixH.done (by kernel_rfl) ?_
              have HE : Hid (MS w wE B R M s (p') (m')) := hS
              clear hS
              go_wp2
              (try simp only [Exit.inBlock, Exit.then])
              refine bodyPost_ret (results_mac_tmp2 rfl _ _ B mz rfl HE.out.2.2.1) rfl ?_
              exact ⟨by rw [HF.out]; rfl, HE.out.2.2.2⟩
            · have HBE : Hid ((p' == s.size) = false ∧ p' < s.size) := ⟨by simp [hE], by have := HJ.out.2.2; omega⟩
              rw [HBE.out.1]
              obtain ⟨d, hd⟩ : ∃ d, dgV (sB s p') = d := ⟨_, rfl⟩
              have HDV : Hid (dgV (sB s p') = d ∧ d ≤ 16) := ⟨hd, by rw [← hd]; exact dgV_le _⟩
              clear hE hd
              have c5 := H5.out.1.c1
              have b5 : (p' : Int) < (s.size : Int) := by have := HBE.out.2; omega
              have b6 : (0 : Int) ≤ (p' : Int) := by omega
              go_wp2_with (refine wpList_sB (.tmp 31) (.tmp 33) rfl s p' _ rfl rfl rfl HBE.out.2 rfl ?_)
              refine (digit_any' (sB s p') w5 (sB_lt s p')).mono ?_
              rintro e wz ⟨rfl, rfl⟩
              rw [HDV.out.1]
              clear c5 b5 b6
              by_cases hd : 16 ≤ d
              · have d1 : decide ((16 : Int) ≤ (d : Int)) = true := decide_eq_true (by omega)
                have d2 : (16 : Int) ≤ (d : Int) := by omega
                have HF : Hid (pMC s = .inr ((hrE s p').1, p')) := by
                  have h1 := HJ.out.1
                  rw [HKK.out.1, mcN_no (.inr (by rw [HDV.out.1]; exact hd)), hrE_at HJ.out.2.2] at h1
                  exact HER.out _ h1.symm
                clear hd
                go_upto_region 13 with fail
                refine MixH.start (fun A => MS w A B R M s (p') (m')) (by kernel_rfl) ?_
                obtain ⟨wA, hwA⟩ : ∃ W_, W_ = w5.drew := ⟨_, rfl⟩
                have bdr : Below w5.heap.size w5 wA := by rw [hwA]; exact (Below.refl _ _).drew
                have hS : MS w wA B R M s (p') (m') := H5.out.no (Ch.ofBelow bdr)
                rw [← hwA]
                clear hwA bdr
                refine MixH.takes [true, false, true] 5 (by kernel_rfl) (by kernel_rfl) (by decide) (by kernel_rfl) hS (fun K hK => ?_)
                simp only [Mix.pick]
                repeat (go_big_quiet_step (fail))
                refine wpQuiet_nil (hK _ ?_)
                clear hK K
                refine MixH.take 4 3 _ (.int .i64 (p' : Nat)) rfl (by kernel_rfl) (by kernel_rfl) (by kernel_rfl) (by kernel_rfl) (yields_int (.tmp 40) rfl ⟨R, 1, none⟩ (.int .i64 (p' : Nat)) rfl rfl (fun A hA => hA.1.c1)) hS (fun a' ha => ?_)
                simp only [Act.put, List.setIfInBounds_toArray, List.set_cons_succ, List.set_cons_zero] at ha
                subst ha
                refine MixH.one [false, true] 3 1 _ rfl rfl (by kernel_rfl) (by kernel_rfl) (fun K hK => ?_)
                simp only [Mix.pick]
                go_wp2_with fail
                refine Calls.mono (wrong_any R s (p') wA hS.1 HJ.out.2.2) ?_
                rintro e wR ⟨rfl, hn⟩
                replace hS : MS w wR B R M s (p') (m') := hS.no hn
                clear hn
                go_wp2_with fail
                refine ⟨rfl, hK _ _ hS ?_⟩
                clear hK K
                refine MixH.one [false, false, false, false, true] 2 4 _ rfl rfl (by kernel_rfl) (by kernel_rfl) (fun K hK => ?_)
                simp only [Mix.pick]
                go_wp2_with (refine wpList_store_mac (.tmp 2) (.tmp 38) rfl rfl B mz mz rfl rfl hS.2.2.1 rfl ?_)
                intro wE hRE kE
                replace hS : MS w wE B R M s (p') (m') := ⟨hS.1.ch kE (fun e => HNE.out.2.1 e.symm), hS.2.1.ch kE (fun e => HNE.out.2.2.1 e.symm), hRE, hS.2.2.2.trans (kE.below (fun q h => by have h' : q = B := h; have := HNE.out; omega) hS.2.2.2.size)⟩
                clear hRE kE
                go_wp2_with fail
                refine ⟨rfl, hK _ _ hS ?_⟩
                clear hK K
                refine MixH.takes [false, false, false, false, false, true, true] 0 (by kernel_rfl) (by kernel_rfl) (by decide) (by kernel_rfl) hS (fun K hK => ?_)
                simp only [Mix.pick]
                repeat (go_big_quiet_step (fail))
                refine wpQuiet_nil (hK _ ?_)
                clear hK K
                refine MixH.done (by kernel_rfl) ?_
                have HE : Hid (MS w wE B R M s (p') (m')) := hS
                clear hS
                go_wp2
                (try simp only [Exit.inBlock, Exit.then])
                refine bodyPost_ret (results_mac_tmp2 rfl _ _ B mz rfl HE.out.2.2.1) rfl ?_
                exact ⟨by rw [HF.out]; rfl, HE.out.2.2.2⟩
              · have d1 : decide ((16 : Int) ≤ (d : Int)) = false := decide_eq_false (by omega)
                have d2 : ¬ (16 : Int) ≤ (d : Int) := by omega
                obtain ⟨v, hv⟩ : ∃ v, (16 * m' i + d) % 256 = v := ⟨_, rfl⟩
                have HV : Hid ((16 * m' i + d) % 256 = v ∧ v < 256 ∧ d < 16 ∧ m' i < 256) := ⟨hv, by rw [← hv]; exact Nat.mod_lt _ (by omega), by omega, HJ.out.2.1 i HI6.out⟩
                have HN : Hid (mcN s kk i (p' + 1) (up1 m' i v) = mcN s 2 i (p) m) := by
                  have h1 := HJ.out.1
                  rw [HKK.out.1, mcN_step (by rw [HDV.out.1]; have := HBE.out.2; omega), HDV.out.1, hv] at h1
                  exact h1
                have y1 : (i : Int) < 6 := by have := HI6.out; omega
                have y2 : (0 : Int) ≤ (i : Int) := by omega
                have y3 : i < 6 := HI6.out
                clear hd hv
                go_upto_region 14 with fail
                refine MixJ.start (fun A => MS w A B R M s (p') (m')) 13 (by kernel_rfl) ?_
                obtain ⟨wA, hwA⟩ : ∃ W_, W_ = w5.drew := ⟨_, rfl⟩
                have bdr : Below w5.heap.size w5 wA := by rw [hwA]; exact (Below.refl _ _).drew
                have hS : MS w wA B R M s p' m' := H5.out.no (Ch.ofBelow bdr)
                rw [← hwA]
                clear hwA bdr
                refine MixJ.takes [true, true, true, false, false, true, true] 9 (by kernel_rfl) (by kernel_rfl) (by decide) (by kernel_rfl) (by kernel_rfl) hS (fun K hK => ?_)
                simp only [Mix.pick]
                repeat (go_big_quiet_step (fail))
                refine wpQuiet_nil (hK _ ?_)
                clear hK K
                refine MixJ.take 8 3 _ (.int .u8 (m' i : Nat)) rfl (by kernel_rfl) (by kernel_rfl) (by kernel_rfl) (by kernel_rfl) (by kernel_rfl) (by kernel_rfl) (yields_by4 (.tmp 44) rfl ⟨M, i, none⟩ (.int .u8 (m' i : Nat)) rfl rfl (fun A hA => by have := hA.2.1.cell i; rw [macC_at m' i HI6.out] at this; exact this)) hS (fun a' ha => ?_)
                simp only [Act.put, List.setIfInBounds_toArray, List.set_cons_succ, List.set_cons_zero] at ha
                subst ha
                refine MixJ.takes [false, false, false, false, true] 7 (by kernel_rfl) (by kernel_rfl) (by decide) (by kernel_rfl) (by kernel_rfl) hS (fun K hK => ?_)
                simp only [Mix.pick]
                repeat (go_big_quiet_step (fail))
                refine wpQuiet_nil (hK _ ?_)
                clear hK K
                refine MixJ.take 6 7 _ (.int .i64 (p' : Nat)) rfl (by kernel_rfl) (by kernel_rfl) (by kernel_rfl) (by kernel_rfl) (by kernel_rfl) (by kernel_rfl) (yields_int (.tmp 48) rfl ⟨R, 1, none⟩ (.int .i64 (p' : Nat)) rfl rfl (fun A hA => hA.1.c1)) hS (fun a' ha => ?_)
                simp only [Act.put, List.setIfInBounds_toArray, List.set_cons_succ, List.set_cons_zero] at ha
                subst ha
                refine MixJ.take 5 8 _ (.int .u8 (sB s p' : Nat)) rfl (by kernel_rfl) (by kernel_rfl) (by kernel_rfl) (by kernel_rfl) (by kernel_rfl) (by kernel_rfl) (yields_sBu (.tmp 47) (.tmp 49) rfl .i64 s p' _ rfl rfl rfl HBE.out.2 rfl) hS (fun a' ha => ?_)
                simp only [Act.put, List.setIfInBounds_toArray, List.set_cons_succ, List.set_cons_zero] at ha
                subst ha
                refine MixJ.many [9] 4 (by kernel_rfl) (by decide) (by kernel_rfl) ?_
                intro i_ hi_
                simp only [List.mem_cons, List.not_mem_nil, or_false] at hi_
                subst hi_
                refine ⟨_, rfl, fun K hK => ?_⟩
                go_wp2_with fail
                refine Calls.mono (digit_any' (sB s p') wA (sB_lt s p')) ?_
                rintro e wz ⟨rfl, rfl⟩
                rw [HDV.out.1]
                go_wp2_with fail
                refine ⟨rfl, hK _ _ (fun _ => hS) ?_⟩
                clear hK K
                refine MixJ.takes [false, false, false, false, false, false, false, false, false, false, true, true, true] 1 (by kernel_rfl) (by kernel_rfl) (by decide) (by kernel_rfl) (by kernel_rfl) hS (fun K hK => ?_)
                simp only [Mix.pick]
                repeat (go_big_quiet_step (fail))
                refine wpQuiet_nil (hK _ ?_)
                clear hK K
                refine MixJ.many [13] 0 (by kernel_rfl) (by decide) (by kernel_rfl) ?_
                intro i_ hi_
                simp only [List.mem_cons, List.not_mem_nil, or_false] at hi_
                subst hi_
                refine ⟨_, rfl, fun K hK => ?_⟩
                have kc : wA.cell? ⟨M, i, none⟩ = some (.int .u8 (m' i : Nat)) := by have := hS.2.1.cell i; rw [macC_at m' i HI6.out] at this; exact this
                have kf : wA.frozen? ⟨M, i, none⟩ = false := hS.2.1.fz i
                go_wp2_with fail
                obtain ⟨wD, hwD⟩ : ∃ W_, W_ = wA.setCell ⟨M, i, none⟩ (.int .u8 (bits BinOp.or IntKind.u8 ((m' i : Int) * 16 % 256) (d : Int))) := ⟨_, rfl⟩
                have HD9 : Hid (MS w wD B R M s p' (up1 m' i v)) := by
                  have e : bits BinOp.or IntKind.u8 ((m' i : Int) * 16 % 256) (d : Int) = ((v : Nat) : Int) := by rw [or_nib (m' i) d HV.out.2.2.1, HV.out.1]
                  rw [hwD, e]
                  have c : Ch (fun k => k = M) wA (wA.setCell ⟨M, i, none⟩ (.int .u8 (v : Nat))) := (Ch.refl (fun k => k = M) wA).set ⟨M, i, none⟩ _ rfl
                  exact ⟨hS.1.ch c (fun e => HNE.out.1 e.symm), hS.2.1.set i v HI6.out, hS.2.2.1.ch c HNE.out.2.2.1, hS.2.2.2.trans (c.below (fun x hx => by have h' : x = M := hx; have h1 := HNE.out; have h2 := HRM.out; omega) hS.2.2.2.size)⟩
                rw [← hwD]
                clear hwD kc kf
                refine ⟨rfl, hK _ _ (fun q => absurd rfl q) ?_⟩
                clear hK K
                refine MixJ.done (by kernel_rfl) ?_
                clear hS
                have c9 := HD9.out.1.c1
                have f9 := HD9.out.1.fz 1
                have x9 : IntKind.i64.wrap ((p' : Int) + 1) = (p' : Int) + 1 := i64_s _ (by omega) (by have h1 := HBE.out.2; have h2 := HS.out; omega)
                obtain ⟨wF, hwF⟩ : ∃ wF, wF = wD.setCell ⟨R, 1, none⟩ (.int .i64 ((p' : Int) + 1)) := ⟨_, rfl⟩
                have HWF : Hid (wD.setCell ⟨R, 1, none⟩ (.int .i64 ((p' : Int) + 1)) = wF) := hwF.symm
                have HMF : Hid (MS w wF B R M s (p' + 1) (up1 m' i v)) := HD9.out.rd HNE.out.1 HNE.out.2.1 HNE.out.2.2.2.2 ⟨by rw [hwF]; exact HD9.out.1.set (p' + 1), by rw [hwF]; exact (Ch.refl (fun k => k = R) wD).set ⟨R, 1, none⟩ _ rfl⟩
                clear hwF
                go_wp2
                go_roundw
                case rel => exact ⟨j + 1, p' + 1, up1 m' i v, by have := HKK.out.2.2; omega, by simp, ⟨by rw [HKK.out.2.1]; exact HN.out, fun k hk => by unfold up1; split; exact HV.out.2.1; exact HJ.out.2.1 k hk, HBE.out.2⟩, by rw [HWF.out]; exact HMF.out⟩
                case measure => have := HKK.out.2.2; simp [intOf]; omega
          · obtain rfl : j = 2 := by have := HJ2.out; omega
            clear hj
            have HN2 : Hid (mcB s (nn + 1) i p m = mcB s nn (i + 1) p' m') := mcB_go HCOL.out (by rw [HP1.out.2]; exact HJ.out.1.symm)
            go_wp2
            go_roundw
            case rel => exact ⟨i + 1, p', m', by have := HI6.out; omega, by simp, ⟨by rw [show 6 - (i + 1) = nn by have := HNN.out; omega, ← HN2.out, ← HNN.out]; exact HIV.out.1, HJ.out.2.1, HJ.out.2.2⟩, HM.out⟩
            case measure => have := HI6.out; simp [intOf]; omega
    · obtain rfl : i = 6 := by have := HI.out; omega
      clear hi
      have HP : Hid (pMC s = .inl m) := by show _ = _; rw [HPM.out, ← HIV.out.1]; rfl
      go_wp2_with (first | (refine wpList_load_mac (.tmp 6) rfl M m rfl HMS.out.2.1 rfl ?_) | (refine wpList_store_mac (.tmp 2) (.tmp 61) rfl rfl B mz m rfl rfl HMS.out.2.2.1 rfl ?_))
      intro wE hRE kE
      have HE : Hid (MacAt wE B m ∧ Below w.heap.size w wE) := ⟨hRE, HMS.out.2.2.2.trans (kE.below (fun q h => by have h' : q = B := h; have := HNE.out; omega) HMS.out.2.2.2.size)⟩
      clear hRE kE
      go_wp2
      (try simp only [Exit.inBlock, Exit.then])
      refine bodyPost_ret (results_mac_tmp2 rfl _ _ B m rfl HE.out.1) rfl ?_
      exact ⟨by rw [HP.out]; rfl, HE.out.2⟩
theorem parseMac_any (s : ByteArray) (w : World) : Calls Tryz.prog 45 #[.string s] w fun r w' => r = .returned (mcO (pMC s)) ∧ Below w.heap.size w w' := by
  by_cases h1 : s.size ≤ 17
  · exact parseMac_short s w h1
  · exact parseMac_long s w (by omega)
end Go.Proofs.YteldiggaooeeeaaGreatDoor
namespace Go.Proofs.YteldiggaooeeeaaGreatDoor
open Go.RowKit

theorem pIP_ok {s : ByteArray} {V : Int} {x : Nat → Nat} (h : pIP s = .inl (V, x)) : vld V x = true := by
  rcases pIP_vld h with rfl | ⟨rfl, h4⟩
  · rfl
  · unfold vld
    rw [Bool.or_eq_true]
    refine .inr ?_
    rw [beq_self_eq_true, Bool.true_and, same16_iff]
    intro i _
    unfold hdA
    split
    · rfl
    · rw [h4 i (by omega), Nat.zero_and]
theorem pPF_ok {s : ByteArray} {p : PV} (h : pPF s = .inl p) : vpE p = 0 ∧ ∀ i, p.x i < 256 := by
  unfold pPF at h
  split at h
  · cases h
  · split at h
    · cases h
    · split at h
      · cases h
      · rename_i V x hp
        unfold pPF2 at h
        split at h
        · cases h
        · split at h
          · cases h
          · split at h
            · cases h
            · split at h
              · cases h
              · rename_i hv
                injection h with h
                rw [← h]
                exact ⟨by simpa using hv, pIP_lt hp⟩
theorem mcN_lt {s : ByteArray} : ∀ (k i p : Nat) (m : Nat → Nat) (q : Nat) (m' : Nat → Nat), (∀ j, m j < 256) → mcN s k i p m = .inl (q, m') → ∀ j, m' j < 256
  | 0, i, p, m, q, m', hm, h => by
    unfold mcN at h
    injection h with h
    injection h with _ h2
    rw [← h2]
    exact hm
  | k + 1, i, p, m, q, m', hm, h => by
    unfold mcN at h
    split at h
    · cases h
    · refine mcN_lt k i _ _ q m' (fun j => ?_) h
      unfold up1
      split
      · exact Nat.mod_lt _ (by omega)
      · exact hm j
theorem mcB_lt {s : ByteArray} : ∀ (n i p : Nat) (m m' : Nat → Nat), (∀ j, m j < 256) → mcB s n i p m = .inl m' → ∀ j, m' j < 256
  | 0, i, p, m, m', hm, h => by
    unfold mcB at h
    injection h with h
    rw [← h]
    exact hm
  | n + 1, i, p, m, m', hm, h => by
    unfold mcB at h
    split at h
    · cases h
    · split at h
      · cases h
      · rename_i q m2 hN
        exact mcB_lt n _ _ _ m' (mcN_lt 2 i _ m q m2 hm hN) h
theorem pMC_lt {s : ByteArray} {m : Nat → Nat} (h : pMC s = .inl m) : ∀ j, m j < 256 := by
  unfold pMC at h
  split at h
  · cases h
  · exact mcB_lt 6 0 0 mz m (fun _ => by show 0 < 256; decide) h
end Go.Proofs.YteldiggaooeeeaaGreatDoor
