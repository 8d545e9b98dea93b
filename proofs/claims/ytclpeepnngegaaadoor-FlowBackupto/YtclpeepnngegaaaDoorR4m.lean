/-
  weirref4: ParsePrefix of a right text; of.
-/
import Derived.Test.YtclpeepnngegaaaDoorR4l
namespace Go.Proofs.YtclpeepnngegaaaDoor
open Go.RowKit Go.Maps

theorem run_pfx2 (V : Int) (x : Nat → Nat) (n : Int) (w : World) : (Instr.build 114 #[(0, .agg (ipCells V x)), (1, .int .i64 n)]).run Tryd.prog w = .ok (.agg (pfC ⟨V, x, n⟩)) w := by kernel_rfl
theorem wpList_pfx2 {ops : Array Oper} {rest : List Oper} {o : Oper} {a_ : Act} {w : World} {Q : Exit → Act → World → Prop} (y0 y1 : Operand) (ho : o.op = .build 114 #[(0, y0), (1, y1)]) (V : Int) (x : Nat → Nat) (n : Int) (h0 : a_.eval y0 = .agg (ipCells V x)) (h1 : a_.eval y1 = .int .i64 n) (hw : Region.wanted o (yielded ops a_.tmps) = true)
    (h : wpList Tryd.prog ops Q rest (a_.put o.dst (.agg (pfC ⟨V, x, n⟩))) w) : wpList Tryd.prog ops Q (o :: rest) a_ w := by
  refine wpList_step fun K hK => ?_
  rw [if_pos hw]
  have hrun : (execOp a_.eval o).run Tryd.prog w = .ok (.value (.agg (pfC ⟨V, x, n⟩))) w := by
    obtain ⟨dst, op, type, pos, after, guard⟩ := o
    simp only at ho
    subst ho
    simp only [execOp, Sem.run_bind, List.map_toArray, List.map_cons, List.map_nil, h0, h1, run_pfx2 V x n w, Result.andThen_ok]
    rfl
  unfold Oper.wp
  rw [hrun]
  exact hK _ _ h
theorem results_pf3 {fn : Func} {p u v : Tmp} (h : fn.results = #[.cell p 114, .tmp u, .tmp v]) (tmps : Array Value) (w : World) (O : Nat) (x : PV) (hp : tmps.getD p undef = .pointer (some ⟨O, 0, none⟩)) (hb : PfxAt w O x) :
    (results fn tmps).run Tryd.prog w = .ok (.tuple #[.agg (pfC x), tmps.getD u undef, tmps.getD v undef]) w := by
  have hp' : tmps[p]?.getD undef = .pointer (some ⟨O, 0, none⟩) := by simpa using hp
  simp [results, h, hp', asAddr, run_loadVar_row w O _ 114 (pfC x) _ _ hb Tryd.underlying114 rfl Tryd.size_pfx]
/-- a right text of a prefix -/
structure PfOk (s : ByteArray) (k : Nat) (V : Int) (x : Nat → Nat) (n : Nat) : Prop where
  sz : s.size ≤ 49
  kl : k + 1 < s.size
  no : ∀ i, i < k → sB s i ≠ 47
  at_ : sB s k = 47
  ip : ∀ w, Calls Tryd.prog 74 #[.string (s.extract 0 k)] w fun r w' => r = .returned (.tuple #[.agg (ipCells V x), .int .i64 0, .int .i64 0]) ∧ Below w.heap.size w w'
  xb : ∀ i, i < 16 → x i < 256
  dg : ∀ i, i < s.size - (k + 1) → dgB (sB s (k + 1 + i)) = true
  nm : dcm s (k + 1) s.size (wdN V) = (n : Nat)
  vp : vpR ⟨V, x, (n : Nat)⟩ = 0
set_option maxHeartbeats 1600000 in
set_option maxRecDepth 100000 in
theorem prefix_right {s : ByteArray} {k : Nat} {V : Int} {x : Nat → Nat} {n : Nat} (h : PfOk s k V x n) (w : World) : Calls Tryd.prog 66 #[.string s] w fun r w' => r = .returned (.tuple #[.agg (pfC ⟨V, x, (n : Nat)⟩), .int .i64 0, .int .i64 0]) ∧ Below w.heap.size w w' := by
  have HP : Hid (PfOk s k V x n) := h
  have q1 : decide ((49 : Int) < (s.size : Int)) = false := decide_eq_false (by have := h.sz; omega)
  clear h
  obtain ⟨W, hY⟩ : ∃ Y, Y = w.alloc (.cells (pfC pv0) 114) := ⟨_, rfl⟩
  have bY : Below w.heap.size w W := by rw [hY]; exact (Below.refl _ _).alloc (Nat.le_refl _) _
  obtain ⟨I, hO⟩ : ∃ O, O = w.heap.size := ⟨_, rfl⟩
  have HNI : Hid (PfxAt W I pv0) := by show PfxAt W I pv0; rw [hY, hO]; exact pfx_new w pv0
  have HLI : Hid (Below w.heap.size w W) := bY
  have HEI : Hid (w.alloc (.cells (pfC pv0) 114) = W) := hY.symm
  have HOI : Hid (w.heap.size = I) := hO.symm
  clear hY bY hO
  go_enter Tryd.func66, Tryd.ntmps66
  go_wp2_with (first | (refine wpList_alloc_pfx rfl rfl ?_; rw [HEI.out, HOI.out]))
  go_loopw [5] (fun iv wr => ∃ i : Nat, i ≤ k ∧ iv = .int .i64 (i : Nat) ∧ W = wr) (fun iv _ => k - (intOf iv).toNat)
  case atStart => exact ⟨0, Nat.zero_le _, rfl, rfl⟩
  case round =>
    obtain ⟨i, hi, rfl, rfl⟩ := hrel
    have HIS : Hid (i < s.size) := by have := HP.out.kl; show i < s.size; omega
    have p1 : decide ((i : Int) < (s.size : Int)) = true := decide_eq_true (by have := HIS.out; omega)
    have p2 : decide (i < s.size) = true := decide_eq_true HIS.out
    have ww1 : IntKind.i64.wrap ((i : Int) + 1) = (i : Int) + 1 := i64_s _ (by omega) (by have := HIS.out; have := HP.out.sz; omega)
    by_cases hik : i < k
    · have n1 : (((sB s i : Nat) : Int) != 47) = true := by have := HP.out.no i hik; simp; omega
      have n2 : (((sB s i : Nat) : Int) == 47) = false := by have := HP.out.no i hik; simp; omega
      have HIK : Hid (i < k) := hik
      clear hik hi
      go_wp2_with (refine wpList_sB (.tmp 23) (.tmp 24) rfl s i _ rfl rfl rfl HIS.out rfl ?_)
      go_roundw
      case rel => exact ⟨i + 1, HIK.out, by simp, by first | rfl | trivial⟩
      case measure => have := HIK.out; simp [intOf]; omega
    · obtain rfl : i = k := by omega
      have n1 : (((sB s i : Nat) : Int) != 47) = false := by have := HP.out.at_; simp [this]
      have n2 : (((sB s i : Nat) : Int) == 47) = true := by have := HP.out.at_; simp [this]
      have n3 : ((i : Int) == (s.size : Int)) = false := by have := HIS.out; simp; omega
      have n4 : (i == s.size) = false := by have := HIS.out; simp; omega
      have hik0 : (0 : Int) ≤ (i : Int) := by omega
      have hik1 : (i : Int) ≤ (s.size : Int) := by have := HIS.out; omega
      obtain ⟨u, hu⟩ : ∃ u, s.extract 0 i = u := ⟨_, rfl⟩
      have HU : Hid (s.extract 0 i = u) := hu
      have HPI : Hid (∀ w, Calls Tryd.prog 74 #[.string u] w fun r w' => r = .returned (.tuple #[.agg (ipCells V x), .int .i64 0, .int .i64 0]) ∧ Below w.heap.size w w') := by have := HP.out.ip; rw [hu] at this; exact this
      clear hik hi hu
      go_wp2_with (refine wpList_sB (.tmp 23) (.tmp 24) rfl s i _ rfl rfl rfl HIS.out rfl ?_)
      try rw [HU.out]
      refine (HPI.out W).mono ?_
      rintro e1 w1 ⟨rfl, b1⟩
      have H1 : Hid (PfxAt w1 I pv0 ∧ Below w.heap.size w w1) := ⟨HNI.out.below b1, bthen HLI.out b1⟩
      clear b1
      obtain ⟨w2, hw2⟩ : ∃ w2, w2 = w1.alloc (.cells (ipCells 0 (fun _ => 0)) 24) := ⟨_, rfl⟩
      have l2 : Below w1.heap.size w1 w2 := by rw [hw2]; exact (Below.refl _ _).alloc (Nat.le_refl _) _
      have a2 := ipr_new w1 0 (fun _ => 0)
      rw [← hw2] at a2
      obtain ⟨D, hD⟩ : ∃ D, w1.heap.size = D := ⟨_, rfl⟩
      rw [hD] at a2
      have HOD : Hid (w1.heap.size = D) := hD
      have HW2 : Hid (w1.alloc (.cells (ipCells 0 (fun _ => 0)) 24) = w2) := hw2.symm
      have H2 : Hid (PfxAt w2 I pv0 ∧ IprAt w2 D 0 (fun _ => 0) ∧ Below w.heap.size w w2 ∧ I < D) := ⟨H1.out.1.below l2, a2, bthen H1.out.2 l2, by rw [← hD]; exact H1.out.1.lt⟩
      clear hw2 l2 a2 hD
      go_wp2_with (first | (refine wpList_alloc_ipr rfl rfl ?_; rw [HW2.out, HOD.out]) | (refine wpList_store_ipr (.tmp 6) (.tmp 42) rfl rfl D 0 (fun _ => 0) V x rfl rfl H2.out.2.1 rfl ?_))
      intro w3 h3 k3
      have H3 : Hid (PfxAt w3 I pv0 ∧ IprAt w3 D V x ∧ Below w.heap.size w w3) := ⟨H2.out.1.ch k3 (by have := H2.out.2.2.2; omega), h3, H2.out.2.2.1.trans (k3.below (fun q hq => by have h1 := H2.out.2.2.2; have h2 := HOI.out; omega) H2.out.2.2.1.size)⟩
      clear h3 k3
      obtain ⟨z, hz⟩ : ∃ z, i + 1 = z := ⟨_, rfl⟩
      have HZ : Hid (i + 1 = z) := hz
      have w1z : IntKind.i64.wrap ((i : Int) + 1) = (z : Int) := by rw [ww1]; omega
      clear hz ww1 n1 n2 p1 p2 n3 n4
      go_wp2_with fail
      go_loopw [9] (fun qv wr => ∃ q : Nat, z ≤ q ∧ q ≤ s.size ∧ qv = .int .i64 (q : Nat) ∧ w3 = wr) (fun qv _ => s.size - (intOf qv).toNat)
      case atStart => exact ⟨z, Nat.le_refl _, by have h1 := HZ.out; have h2 := HP.out.kl; omega, rfl, rfl⟩
      case round =>
        obtain ⟨q, hq1, hq2, rfl, rfl⟩ := hrel
        by_cases hqs : q < s.size
        · have p1 : decide ((q : Int) < (s.size : Int)) = true := decide_eq_true (by omega)
          have p2 : decide (q < s.size) = true := decide_eq_true hqs
          have w1q : IntKind.i64.wrap ((q : Int) + 1) = (q : Int) + 1 := i64_s _ (by omega) (by have := HP.out.sz; omega)
          have HQS : Hid (q < s.size ∧ z ≤ q) := ⟨hqs, hq1⟩
          have HB : Hid (dgB (sB s q) = true) := by
            have h1 := HP.out.dg (q - z) (by have h1 := HZ.out; omega)
            rw [show i + 1 + (q - z) = q by have h1 := HZ.out; omega] at h1
            exact h1
          clear hqs hq1 hq2
          go_wp2_with (refine wpList_sB (.tmp 57) (.tmp 58) rfl s q _ rfl rfl rfl HQS.out.1 rfl ?_)
          refine (digit_any (sB s q) w3).mono ?_
          rintro e1 wz ⟨rfl, rfl⟩
          rw [HB.out]
          go_wp2_with fail
          go_roundw
          case rel => exact ⟨q + 1, by have := HQS.out; omega, HQS.out.1, by simp, by first | rfl | trivial⟩
          case measure => have := HQS.out; simp [intOf]; omega
        · obtain rfl : q = s.size := by omega
          have p1 : decide ((s.size : Int) < (s.size : Int)) = false := decide_eq_false (by omega)
          have p2 : decide (s.size < s.size) = false := decide_eq_false (by omega)
          have e1 : ((s.size : Int) == (z : Int)) = false := by have h1 := HZ.out; have h2 := HP.out.kl; simp; omega
          have e2 : (s.size == z) = false := by have h1 := HZ.out; have h2 := HP.out.kl; simp; omega
          have nn : ¬ ((n : Nat) : Int) < 0 := by omega
          have nd : decide (((n : Nat) : Int) < 0) = false := decide_eq_false nn
          have HDZ : Hid (z ≤ s.size) := hq1
          clear hqs hq1 hq2
          go_wp2_with (first | (refine wpList_load_ipr (.tmp 6) rfl D V x rfl H3.out.2.1 rfl ?_))
          refine (width_any V x w3).mono ?_
          rintro e3 w4 ⟨rfl, b4⟩
          have H4 : Hid (PfxAt w4 I pv0 ∧ IprAt w4 D V x ∧ Below w.heap.size w w4) := ⟨H3.out.1.below b4, H3.out.2.1.below b4, bthen H3.out.2.2 b4⟩
          clear b4
          go_wp2_with fail
          refine (decimal_any s z s.size (wdN V) w4 HDZ.out (Nat.le_refl _) (by have := HP.out.sz; omega) (fun j hj => by have h1 := HP.out.dg j (by have h1 := HZ.out; omega); rw [HZ.out] at h1; exact h1)).mono ?_
          rintro e3 wz ⟨rfl, rfl⟩
          have HDN : Hid (dcm s z s.size (wdN V) = (n : Nat)) := by have h1 := HP.out.nm; rw [HZ.out] at h1; exact h1
          rw [HDN.out]
          obtain ⟨w5, hw5⟩ : ∃ w5, w5 = w4.alloc (.cells (pfC pv0) 114) := ⟨_, rfl⟩
          have l5 : Below w4.heap.size w4 w5 := by rw [hw5]; exact (Below.refl _ _).alloc (Nat.le_refl _) _
          have a5 := pfx_new w4 pv0
          rw [← hw5] at a5
          obtain ⟨E, hE⟩ : ∃ E, w4.heap.size = E := ⟨_, rfl⟩
          rw [hE] at a5
          have HOE : Hid (w4.heap.size = E) := hE
          have HW5 : Hid (w4.alloc (.cells (pfC pv0) 114) = w5) := hw5.symm
          have H5 : Hid (PfxAt w5 I pv0 ∧ PfxAt w5 E pv0 ∧ Below w.heap.size w w5 ∧ I < E) := ⟨H4.out.1.below l5, a5, bthen H4.out.2.2 l5, by rw [← hE]; exact H4.out.1.lt⟩
          clear hw5 l5 a5 hE
          go_wp2_with (first | (refine wpList_load_ipr (.tmp 6) rfl D V x rfl H4.out.2.1 rfl ?_) | (refine wpList_pfx2 (.tmp 95) (.tmp 96) rfl V x (n : Nat) rfl rfl rfl ?_) | (refine wpList_alloc_pfx rfl rfl ?_; rw [HW5.out, HOE.out]) | (refine wpList_store_pfx (.tmp 13) (.tmp 97) rfl rfl E pv0 ⟨V, x, (n : Nat)⟩ rfl rfl H5.out.2.1 rfl ?_))
          intro w6 h6 k6
          have H6 : Hid (PfxAt w6 I pv0 ∧ PfxAt w6 E ⟨V, x, (n : Nat)⟩ ∧ Below w.heap.size w w6) := ⟨H5.out.1.ch k6 (by have := H5.out.2.2.2; omega), h6, H5.out.2.2.1.trans (k6.below (fun q hq => by have h1 := H5.out.2.2.2; have h2 := HOI.out; omega) H5.out.2.2.1.size)⟩
          clear h6 k6
          go_wp2_with (first | (refine wpList_load_pfx (.tmp 13) rfl E ⟨V, x, (n : Nat)⟩ rfl H6.out.2.1 rfl ?_))
          refine (validPrefixR_any ⟨V, x, (n : Nat)⟩ w6 HP.out.xb).mono ?_
          rintro e3 w7 ⟨rfl, b7⟩
          rw [HP.out.vp]
          have H7 : Hid (PfxAt w7 I pv0 ∧ PfxAt w7 E ⟨V, x, (n : Nat)⟩ ∧ Below w.heap.size w w7) := ⟨H6.out.1.below b7, H6.out.2.1.below b7, bthen H6.out.2.2 b7⟩
          clear b7
          go_wp2_with (first | (refine wpList_load_pfx (.tmp 13) rfl E ⟨V, x, (n : Nat)⟩ rfl H7.out.2.1 rfl ?_) | (refine wpList_store_pfx (.tmp 2) (.tmp 102) rfl rfl I pv0 ⟨V, x, (n : Nat)⟩ rfl rfl H7.out.1 rfl ?_))
          intro w8 h8 k8
          have H8 : Hid (PfxAt w8 I ⟨V, x, (n : Nat)⟩ ∧ Below w.heap.size w w8) := ⟨h8, H7.out.2.2.trans (k8.below (fun q hq => by have h2 := HOI.out; omega) H7.out.2.2.size)⟩
          clear h8 k8
          go_wp2_with fail
          refine bodyPost_ret (results_pf3 rfl _ _ I _ rfl H8.out.1) rfl ?_
          exact ⟨rfl, H8.out.2⟩
end Go.Proofs.YtclpeepnngegaaaDoor
