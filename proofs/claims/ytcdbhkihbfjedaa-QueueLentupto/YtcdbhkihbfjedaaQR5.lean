/-
  Layer 18: the document's own answer: Peek, Push, Tick.
-/
import Derived.Test.YtcdbhkihbfjedaaQR4
namespace Go.Proofs.Ytcdbhkihbfjedaa
open Go.RowKit

set_option maxHeartbeats 1600000 in
set_option maxRecDepth 100000 in
theorem peekR_any (v : RQ) (rs : List RL) (cs : List CL) (t : TN) (w : World) (h : RS w v rs) (hcs : csR rs = cs) (hT : RT rs v t) (hok : QOk cs t) : Calls Try.prog 54 #[.agg (rqA v)] w fun e w' => e = .returned (.tuple #[.int .i64 (popN cs t), .int .i64 (popC cs t), .bool (anyR cs)]) ∧ Below w.heap.size w w' := by
  have HH : Hid (RS w v rs ∧ csR rs = cs ∧ RT rs v t ∧ QOk cs t) := ⟨h, hcs, hT, hok⟩
  obtain ⟨pn, hpn⟩ : ∃ pn, popN cs t = pn := ⟨_, rfl⟩
  obtain ⟨pc, hpc⟩ : ∃ pc, popC cs t = pc := ⟨_, rfl⟩
  obtain ⟨pb, hpb⟩ : ∃ pb, anyR cs = pb := ⟨_, rfl⟩
  rw [hpn, hpc, hpb]
  have HE : Hid (popN cs t = pn ∧ popC cs t = pc ∧ anyR cs = pb) := ⟨hpn, hpc, hpb⟩
  clear h hcs hT hok hpn hpc hpb
  go_enter Try.func54, Try.ntmps54
  go_upto_region 1 with (first | (refine wpList_box_rqv (.tmp 0) rfl v rfl rfl ?_; intro B1 W1 hB1 hA1 b1))
  have H1 : Hid (RqvAt W1 B1 v ∧ Below w.heap.size w W1 ∧ RS W1 v rs) := ⟨hA1, b1, HH.out.1.below b1⟩
  clear hB1 hA1 b1
  have QP : Hid _ := popR_any v rs cs t W1 H1.out.2.2 HH.out.2.1 HH.out.2.2.1 HH.out.2.2.2
  rw [HE.out.1, HE.out.2.1, HE.out.2.2] at QP
  go_wp2_with (first | (refine wpList_load_rqv (.tmp 1) rfl B1 v rfl H1.out.1 rfl ?_))
  refine Calls.mono QP.out ?_
  rintro e2 w2 ⟨v', rs', rfl, _, _, _, b2⟩
  have H2 : Hid (Below w.heap.size w w2) := bthen H1.out.2.1 b2
  clear b2 QP
  go_wp2_with (first | (refine wpList_nil_rqv rfl rfl ?_; intro B3 X hB3 hX bX) | (refine wpList_store_rqv (.tmp 5) (.tmp 12) rfl rfl B3 qz v' rfl rfl hX rfl ?_))
  intro w3 h3 k3
  have H3 : Hid (Below w.heap.size w w3) := by
    have hs := H2.out.size
    have hb := hB3.out
    exact (bthen H2.out bX).trans (k3.below (fun q hq => by omega) (bthen H2.out bX).size)
  clear hB3 hX bX h3 k3
  go_wp2_with fail
  go_ret3
  exact ⟨rfl, H3.out⟩
theorem run_bri (x0 x1 : Int) (w : World) : (Instr.build 124 #[(0, .int .i64 x0), (1, .int .i64 x1)]).run Try.prog w = .ok (.agg (riA (x1, x0))) w := by kernel_rfl
theorem wpList_bri {ops : Array Oper} {rest : List Oper} {o : Oper} {a_ : Act} {w : World} {Q : Exit → Act → World → Prop} (y0 y1 : Operand) (ho : o.op = .build 124 #[(0, y0), (1, y1)]) (x0 x1 : Int) (h0 : a_.eval y0 = .int .i64 x0) (h1 : a_.eval y1 = .int .i64 x1) (hw : Region.wanted o (yielded ops a_.tmps) = true)
    (h : wpList Try.prog ops Q rest (a_.put o.dst (.agg (riA (x1, x0)))) w) : wpList Try.prog ops Q (o :: rest) a_ w := by
  refine wpList_step fun K hK => ?_
  rw [if_pos hw]
  have hrun : (execOp a_.eval o).run Try.prog w = .ok (.value (.agg (riA (x1, x0)))) w := by
    obtain ⟨dst, op, type, pos, after, guard⟩ := o
    simp only at ho
    subst ho
    simp only [execOp, Sem.run_bind, List.map_toArray, List.map_cons, List.map_nil, h0, h1, run_bri x0 x1 w, Result.andThen_ok]
    rfl
  unfold Oper.wp
  rw [hrun]
  exact hK _ _ h
theorem run_bs1i (x : Int × Int) (w : World) : (Instr.buildSlice 108 1 #[(0, .agg (riA x))]).run Try.prog w = .ok (.slice (some ⟨w.heap.size, 0, none⟩) 1 1) (w.alloc (.cells (riA x) 124)) := by kernel_rfl
theorem wpList_bs1i {ops : Array Oper} {rest : List Oper} {o : Oper} {a : Act} {w : World} {Q : Exit → Act → World → Prop} (y : Operand) (ho : o.op = .buildSlice 108 1 #[(0, y)]) (x : Int × Int) (hx : a.eval y = .agg (riA x)) (hw : Region.wanted o (yielded ops a.tmps) = true)
    (h : ∀ B W, Hid (w.heap.size = B ∧ W.heap.size = B + 1) → W.rangeAt B 0 (riL x) → Below w.heap.size w W → wpList Try.prog ops Q rest (a.put o.dst (.slice (some ⟨B, 0, none⟩) 1 1)) W) : wpList Try.prog ops Q (o :: rest) a w := by
  refine wpList_step fun K hK => ?_
  rw [if_pos hw]
  unfold Oper.wp execOp
  simp only [ho, Sem.run_bind, List.map_toArray, List.map_cons, List.map_nil, hx, run_bs1i x w, Result.andThen_ok]
  refine hK _ _ (h _ _ ⟨rfl, World.size_alloc _ _⟩ (fun j u hj => ?_) ((Below.refl _ _).alloc (Nat.le_refl _) _))
  rw [World.cell?_alloc_at _ _ _ _ rfl, Nat.zero_add]
  simpa [riL] using hj
set_option maxHeartbeats 6400000 in
set_option maxRecDepth 100000 in
theorem pushR_any (v : RQ) (rs : List RL) (cs : List CL) (t : TN) (i size number : Int) (w : World) (h : RS w v rs) (hcs : csR rs = cs) (hT : RT rs v t) (hok : QOk cs t) : Calls Try.prog 52 #[.agg (rqA v), .int .i64 i, .int .i64 size, .int .i64 number] w fun e w' => ∃ v' rs', e = .returned (.tuple #[.agg (rqA v'), .int .i64 (pushE cs i size)]) ∧ RS w' v' rs' ∧ csR rs' = pushCs cs i size number ∧ RT rs' v' t ∧ Below w.heap.size w w' := by
  have HH : Hid (RS w v rs ∧ csR rs = cs ∧ RT rs v t ∧ QOk cs t) := ⟨h, hcs, hT, hok⟩
  obtain ⟨n, hn⟩ : ∃ n, v.n = n := ⟨_, rfl⟩
  have HN : Hid (v.n = n ∧ n = rs.length ∧ cs.length = n) := ⟨hn, by rw [← hn]; exact h.n, by rw [← hcs, csR_len, ← hn]; exact h.n.symm⟩
  have hn8 : 1 ≤ n ∧ n ≤ 8 := by have := h.len; have := h.n; omega
  have w1 : IntKind.i64.wrap ((n : Int) - 1) = (n : Int) - 1 := i64_s _ (by omega) (by omega)
  have HCO : Hid (∀ r ∈ rs, ClOk r.c) := fun r hr => hok.cl r.c (by rw [← hcs]; exact List.mem_map.2 ⟨r, hr, rfl⟩)
  clear h hcs hT hok hn
  go_enter Try.func52, Try.ntmps52
  go_upto_region 1 with (first | (refine wpList_box_rqv (.tmp 0) rfl v rfl rfl ?_; intro B1 W1 hB1 hA1 b1) | (refine wpList_nil_rqv rfl rfl ?_; intro B2 W2 hB2 hA2 b2))
  have HB : Hid (RqvAt W2 B1 v ∧ RqvAt W2 B2 qz ∧ Below w.heap.size w W2 ∧ RS W2 v rs) := ⟨hA1.below b2, hA2, bthen b1 b2, (HH.out.1.below b1).below b2⟩
  have HO : Hid (w.heap.size = B1 ∧ B2 = B1 + 1 ∧ W2.heap.size = B2 + 1) := ⟨hB1.out.1, by have g1 := hB1.out; have g2 := hB2.out; omega, hB2.out.2⟩
  clear hB1 hA1 b1 hB2 hA2 b2
  have c0 : W2.cell? ⟨B1, 0, none⟩ = some (.slice v.la n v.lc) := (HB.out.1.cell 0).trans (by rw [← HN.out.1]; rfl)
  have QO : Hid _ := out_any i 0 ((n : Int) - 1) W2
  by_cases hi : 0 ≤ i ∧ i ≤ (n : Int) - 1
  · have hb : inB i 0 ((n : Int) - 1) = true := inB_iff.2 hi
    rw [hb] at QO
    obtain ⟨k, hk⟩ : ∃ k : Nat, i = (k : Int) := ⟨i.toNat, by omega⟩
    subst hk
    obtain ⟨r, hr⟩ : ∃ r, rs[k]? = some r := ⟨_, List.getElem?_eq_getElem (by have := HN.out.2.1; omega)⟩
    have HR : Hid (rs[k]? = some r ∧ (0 ≤ (k : Int) ∧ (k : Int) ≤ (cs.length : Int) - 1) ∧ cAt cs ((k : Int)).toNat = r.c ∧ ClOk r.c) := ⟨hr, by rw [HN.out.2.2]; exact hi, by rw [Int.toNat_natCast, ← HH.out.2.1]; exact csR_at hr, HCO.out r (List.mem_of_getElem? hr)⟩
    have k0 : (0 : Int) ≤ (k : Int) := by omega
    have k1 : (k : Int) < (n : Int) := by omega
    have k2 : ((k : Int)).toNat = k := by omega
    clear hi hb hr
    have QO2 : Hid _ := out_any size 1 65535 W2
    obtain ⟨b2, hb2⟩ : ∃ b, inB size 1 65535 = b := ⟨_, rfl⟩
    have HB2 : Hid (inB size 1 65535 = b2) := hb2
    rw [hb2] at QO2
    clear hb2
    go_wp2_with fail
    refine Calls.mono QO.out ?_
    rintro e2 w2 ⟨rfl, rfl⟩
    clear QO
    go_wp2_with fail
    refine Calls.mono QO2.out ?_
    rintro e3 w3 ⟨rfl, rfl⟩
    clear QO2
    cases b2 with
    | false =>
      have HE : Hid (pushE cs (k : Int) size = 182) := by
        show _ = _
        unfold pushE
        rw [if_pos HR.out.2.1, if_neg (fun hh => by have := inB_iff.2 hh; rw [HB2.out] at this; cases this)]
      have HCS : Hid (pushCs cs (k : Int) size number = cs) := by show _ = _; unfold pushCs; rw [if_neg (by rw [HE.out]; decide)]
      go_wp2_with (first | (refine wpList_load_rqv (.tmp 4) rfl B1 v rfl HB.out.1 rfl ?_) | (refine wpList_store_rqv (.tmp 8) (.tmp 21) rfl rfl B2 qz v rfl rfl HB.out.2.1 rfl ?_))
      intro w9 h9 k9
      have H9 : Hid (RqvAt w9 B2 v ∧ RS w9 v rs ∧ Below w.heap.size w w9) := ⟨h9, HB.out.2.2.2.chq k9 HB.out.2.1, HB.out.2.2.1.trans (k9.below (fun q hq => by have := HO.out; omega) HB.out.2.2.1.size)⟩
      clear h9 k9
      go_wp2_with fail
      refine bodyPost_ret (results_rqv2 rfl _ _ B2 _ rfl H9.out.1) rfl ?_
      exact ⟨v, rs, by rw [HE.out]; rfl, H9.out.2.1, by rw [HCS.out]; exact HH.out.2.1, HH.out.2.2.1, H9.out.2.2⟩
    | true =>
      have HSZ : Hid (1 ≤ size ∧ size ≤ 65535) := inB_iff.1 HB2.out
      obtain ⟨g, off, hla, hrg⟩ := HB.out.2.2.2.line HR.out.1
      have HRG : Hid (W2.rangeAt g (off + k * 8) (rlA r).toList) := hrg
      rw [hla] at c0
      clear hrg hla
      go_upto_region 5 with fail
      go_wp2_with (first | (refine wpList_mid_rlv (.tmp 25) rfl g (off + k * 8) r rfl HRG.out rfl ?_) | (refine wpList_nil_rlv rfl rfl ?_; intro B3 X hB3 hX bX) | (refine wpList_store_rlv (.tmp 10) (.tmp 26) rfl rfl B3 rz r rfl rfl hX rfl ?_))
      intro x3 h3 k3
      go_upto_region 6 with fail
      have HOL : Hid (B3 = B2 + 1) := by have g1 := hB3.out; have g2 := HO.out; show _ = _; omega
      have H3 : Hid (RlvAt x3 B3 r ∧ RqvAt x3 B1 v ∧ RqvAt x3 B2 qz ∧ Below w.heap.size w x3 ∧ RS x3 v rs) := by
        have hg := HOL.out
        have ho := HO.out
        have b3 : Below w.heap.size w x3 := (bthen HB.out.2.2.1 bX).trans (k3.below (fun q hq => by omega) (bthen HB.out.2.2.1 bX).size)
        exact ⟨h3, (HB.out.1.below bX).ch k3 (by omega), (HB.out.2.1.below bX).ch k3 (by omega), b3, HH.out.1.below b3⟩
      clear hB3 hX bX h3 k3 c0 HRG HB
      obtain ⟨m, hm⟩ : ∃ m, r.c.L.length = m := ⟨_, rfl⟩
      have HM : Hid (r.c.L.length = m) := hm
      obtain ⟨z, hz⟩ : ∃ z, szL r.c.L = z := ⟨_, rfl⟩
      have HBY : Hid (bytQ (csR rs) (k : Int) = z) := by
        show _ = _
        unfold bytQ
        rw [HH.out.2.1, if_pos HR.out.2.1, HR.out.2.2.1, hz]
      have hzb : 0 ≤ z ∧ z ≤ 67108864 := by have h1 := szL_nn HR.out.2.2.2.el; have h2 := HR.out.2.2.2.sz; have h3 := HR.out.2.2.2.li.by'; omega
      have wz : IntKind.i64.wrap (z + size) = z + size := by have := HSZ.out; exact i64_s _ (by omega) (by omega)
      have HRM : Hid (room r.c size = (decide ((m : Int) < r.c.li.it) && decide (z + size ≤ r.c.li.by'))) := by show _ = _; unfold room; rw [hm, hz]
      have hmb : m ≤ 4096 := by have h1 := HR.out.2.2.2.len; have h2 := HR.out.2.2.2.li.it; omega
      have HMB : Hid (m ≤ 4096) := hmb
      clear hm hz hzb hmb
      by_cases hml : r.c.li.it ≤ (m : Int)
      · have q1 : decide (r.c.li.it ≤ (m : Int)) = true := decide_eq_true hml
        have HE : Hid (pushE cs (k : Int) size = 183) := by
          show _ = _
          unfold pushE
          rw [if_pos HR.out.2.1, if_pos HSZ.out, HR.out.2.2.1, HRM.out, decide_eq_false (show ¬ (m : Int) < r.c.li.it by omega)]
          rfl
        clear hml
        have HCS : Hid (pushCs cs (k : Int) size number = cs) := by show _ = _; unfold pushCs; rw [if_neg (by rw [HE.out]; decide)]
        refine MixH.start (fun A => RlvAt A B3 r ∧ RqvAt A B1 v) (by kernel_rfl) ?_
        obtain ⟨wA, hwA⟩ : ∃ W_, W_ = x3.drew := ⟨_, rfl⟩
        have bdr : Below x3.heap.size x3 wA := by rw [hwA]; exact (Below.refl _ _).drew
        have hS : RlvAt wA B3 r ∧ RqvAt wA B1 v := ⟨H3.out.1.below bdr, H3.out.2.1.below bdr⟩
        have HWA : Hid (Below x3.heap.size x3 wA) := bdr
        rw [← hwA]
        clear hwA bdr
        refine MixH.takes [true, false, false, true, true] 15 (by kernel_rfl) (by kernel_rfl) (by decide) (by kernel_rfl) hS (fun K hK => ?_)
        simp only [Mix.pick]
        repeat (go_big_quiet_step (fail))
        refine wpQuiet_nil (hK _ ?_)
        clear hK K
        refine MixH.take 14 1 _ (.slice r.la m r.lc) rfl (by kernel_rfl) (by kernel_rfl) (by kernel_rfl) (by kernel_rfl) (yields_ris (.tmp 27) rfl ⟨B3, 5, none⟩ (.slice r.la m r.lc) rfl rfl (fun A hA => (RlvAt.cell hA.1 5).trans (by rw [← HM.out]; rfl))) hS (fun a' ha => ?_)
        simp only [Act.put, List.setIfInBounds_toArray, List.set_cons_succ, List.set_cons_zero] at ha
        subst ha
        refine MixH.takes [false, false, true] 13 (by kernel_rfl) (by kernel_rfl) (by decide) (by kernel_rfl) hS (fun K hK => ?_)
        simp only [Mix.pick]
        repeat (go_big_quiet_step (fail))
        refine wpQuiet_nil (hK _ ?_)
        clear hK K
        refine MixH.take 12 5 _ (.int .i64 r.c.li.it) rfl (by kernel_rfl) (by kernel_rfl) (by kernel_rfl) (by kernel_rfl) (yields_int (.tmp 31) rfl ⟨B3, 1, none⟩ (.int .i64 r.c.li.it) rfl rfl (fun A hA => RlvAt.cell hA.1 1)) hS (fun a' ha => ?_)
        simp only [Act.put, List.setIfInBounds_toArray, List.set_cons_succ, List.set_cons_zero] at ha
        subst ha
        refine MixH.takes [false, false, false, false, false, false, true, true, false, true, false, true, false, true, true] 6 (by kernel_rfl) (by kernel_rfl) (by decide) (by kernel_rfl) hS (fun K hK => ?_)
        simp only [Mix.pick]
        repeat (go_big_quiet_step (fail))
        refine wpQuiet_nil (hK _ ?_)
        clear hK K
        refine MixH.take 5 8 _ (undef) rfl (by kernel_rfl) (by kernel_rfl) (by kernel_rfl) (by kernel_rfl) (.inr ⟨rfl, rfl⟩) hS (fun a' ha => ?_)
        simp only [Act.put, List.setIfInBounds_toArray, List.set_cons_succ, List.set_cons_zero] at ha
        subst ha
        refine MixH.take 4 10 _ (undef) rfl (by kernel_rfl) (by kernel_rfl) (by kernel_rfl) (by kernel_rfl) (.inr ⟨rfl, rfl⟩) hS (fun a' ha => ?_)
        simp only [Act.put, List.setIfInBounds_toArray, List.set_cons_succ, List.set_cons_zero] at ha
        subst ha
        refine MixH.takes [false, false, false, false, false, false, false, false, false, false, false, false, true] 3 (by kernel_rfl) (by kernel_rfl) (by decide) (by kernel_rfl) hS (fun K hK => ?_)
        simp only [Mix.pick]
        repeat (go_big_quiet_step (fail))
        refine wpQuiet_nil (hK _ ?_)
        clear hK K
        refine MixH.take 2 15 _ (undef) rfl (by kernel_rfl) (by kernel_rfl) (by kernel_rfl) (by kernel_rfl) (.inr ⟨rfl, rfl⟩) hS (fun a' ha => ?_)
        simp only [Act.put, List.setIfInBounds_toArray, List.set_cons_succ, List.set_cons_zero] at ha
        subst ha
        refine MixH.takes [false, false, false, false, false, false, false, false, false, false, false, false, false, false, false, false, true, true] 0 (by kernel_rfl) (by kernel_rfl) (by decide) (by kernel_rfl) hS (fun K hK => ?_)
        simp only [Mix.pick]
        repeat (go_big_quiet_step (fail))
        refine wpQuiet_nil (hK _ ?_)
        clear hK K
        refine MixH.done (by kernel_rfl) ?_
        clear hS
        have HB : Hid (RqvAt wA B1 v ∧ RqvAt wA B2 qz ∧ Below w.heap.size w wA ∧ RS wA v rs) := ⟨H3.out.2.1.below HWA.out, H3.out.2.2.1.below HWA.out, bthen H3.out.2.2.2.1 HWA.out, H3.out.2.2.2.2.below HWA.out⟩
        go_wp2_with (first | (refine wpList_load_rqv (.tmp 4) rfl B1 v rfl HB.out.1 rfl ?_) | (refine wpList_store_rqv (.tmp 8) (.tmp 45) rfl rfl B2 qz v rfl rfl HB.out.2.1 rfl ?_))
        intro w9 h9 k9
        have H9 : Hid (RqvAt w9 B2 v ∧ RS w9 v rs ∧ Below w.heap.size w w9) := ⟨h9, HB.out.2.2.2.chq k9 HB.out.2.1, HB.out.2.2.1.trans (k9.below (fun q hq => by have := HO.out; omega) HB.out.2.2.1.size)⟩
        clear h9 k9
        go_wp2_with fail
        refine bodyPost_ret (results_rqv2 rfl _ _ B2 _ rfl H9.out.1) rfl ?_
        exact ⟨v, rs, by rw [HE.out]; rfl, H9.out.2.1, by rw [HCS.out]; exact HH.out.2.1, HH.out.2.2.1, H9.out.2.2⟩
      · have q1 : decide (r.c.li.it ≤ (m : Int)) = false := decide_eq_false hml
        by_cases hbz : r.c.li.by' < z + size
        · have q2 : decide (r.c.li.by' < z + size) = true := decide_eq_true hbz
          have HE : Hid (pushE cs (k : Int) size = 183) := by
            show _ = _
            unfold pushE
            rw [if_pos HR.out.2.1, if_pos HSZ.out, HR.out.2.2.1, HRM.out, decide_eq_false (show ¬ z + size ≤ r.c.li.by' by omega), Bool.and_false]
            rfl
          clear hml hbz
          have HCS : Hid (pushCs cs (k : Int) size number = cs) := by show _ = _; unfold pushCs; rw [if_neg (by rw [HE.out]; decide)]
          refine MixH.start (fun A => RlvAt A B3 r ∧ RqvAt A B1 v) (by kernel_rfl) ?_
          obtain ⟨wA, hwA⟩ : ∃ W_, W_ = x3.drew := ⟨_, rfl⟩
          have bdr : Below x3.heap.size x3 wA := by rw [hwA]; exact (Below.refl _ _).drew
          have hS : RlvAt wA B3 r ∧ RqvAt wA B1 v := ⟨H3.out.1.below bdr, H3.out.2.1.below bdr⟩
          have HWA : Hid (Below x3.heap.size x3 wA) := bdr
          have QB : Hid _ := bytesR_any v rs wA (H3.out.2.2.2.2.below bdr) HCO.out (k : Int)
          rw [HBY.out] at QB
          rw [← hwA]
          clear hwA bdr
          refine MixH.takes [true, false, false, true, true] 15 (by kernel_rfl) (by kernel_rfl) (by decide) (by kernel_rfl) hS (fun K hK => ?_)
          simp only [Mix.pick]
          repeat (go_big_quiet_step (fail))
          refine wpQuiet_nil (hK _ ?_)
          clear hK K
          refine MixH.take 14 1 _ (.slice r.la m r.lc) rfl (by kernel_rfl) (by kernel_rfl) (by kernel_rfl) (by kernel_rfl) (yields_ris (.tmp 27) rfl ⟨B3, 5, none⟩ (.slice r.la m r.lc) rfl rfl (fun A hA => (RlvAt.cell hA.1 5).trans (by rw [← HM.out]; rfl))) hS (fun a' ha => ?_)
          simp only [Act.put, List.setIfInBounds_toArray, List.set_cons_succ, List.set_cons_zero] at ha
          subst ha
          refine MixH.takes [false, false, true] 13 (by kernel_rfl) (by kernel_rfl) (by decide) (by kernel_rfl) hS (fun K hK => ?_)
          simp only [Mix.pick]
          repeat (go_big_quiet_step (fail))
          refine wpQuiet_nil (hK _ ?_)
          clear hK K
          refine MixH.take 12 5 _ (.int .i64 r.c.li.it) rfl (by kernel_rfl) (by kernel_rfl) (by kernel_rfl) (by kernel_rfl) (yields_int (.tmp 31) rfl ⟨B3, 1, none⟩ (.int .i64 r.c.li.it) rfl rfl (fun A hA => RlvAt.cell hA.1 1)) hS (fun a' ha => ?_)
          simp only [Act.put, List.setIfInBounds_toArray, List.set_cons_succ, List.set_cons_zero] at ha
          subst ha
          refine MixH.takes [false, false, false, false, false, false, true, true, false, true, false, true, false, true, true] 6 (by kernel_rfl) (by kernel_rfl) (by decide) (by kernel_rfl) hS (fun K hK => ?_)
          simp only [Mix.pick]
          repeat (go_big_quiet_step (fail))
          refine wpQuiet_nil (hK _ ?_)
          clear hK K
          refine MixH.take 5 8 _ (.agg (rqA v)) rfl (by kernel_rfl) (by kernel_rfl) (by kernel_rfl) (by kernel_rfl) (yields_rqv (.tmp 4) rfl B1 0 v rfl rfl (fun A hA => hA.2.all)) hS (fun a' ha => ?_)
          simp only [Act.put, List.setIfInBounds_toArray, List.set_cons_succ, List.set_cons_zero] at ha
          subst ha
          refine MixH.take 4 15 _ (.int .i64 r.c.li.by') rfl (by kernel_rfl) (by kernel_rfl) (by kernel_rfl) (by kernel_rfl) (yields_int (.tmp 41) rfl ⟨B3, 2, none⟩ (.int .i64 r.c.li.by') rfl rfl (fun A hA => RlvAt.cell hA.1 2)) hS (fun a' ha => ?_)
          simp only [Act.put, List.setIfInBounds_toArray, List.set_cons_succ, List.set_cons_zero] at ha
          subst ha
          refine MixH.one [false, false, false, false, false, false, false, false, false, false, true] 3 10 _ rfl rfl (by kernel_rfl) (by kernel_rfl) (fun K hK => ?_)
          simp only [Mix.pick]
          go_wp2_with fail
          refine Calls.mono (QB.out) ?_
          rintro eb xb ⟨rfl, bb⟩
          replace hS : RlvAt xb B3 r ∧ RqvAt xb B1 v := ⟨hS.1.below bb, hS.2.below bb⟩
          have HXB : Hid (Below x3.heap.size x3 xb) := bthen HWA.out bb
          clear bb QB
          go_wp2_with fail
          refine ⟨rfl, hK _ _ hS ?_⟩
          clear hK K
          refine MixH.takes [false, false, false, false, false, false, false, false, false, false, false, false, true, false, false, false, true, true] 0 (by kernel_rfl) (by kernel_rfl) (by decide) (by kernel_rfl) hS (fun K hK => ?_)
          simp only [Mix.pick]
          repeat (go_big_quiet_step (fail))
          refine wpQuiet_nil (hK _ ?_)
          clear hK K
          refine MixH.done (by kernel_rfl) ?_
          clear hS
          have HB : Hid (RqvAt xb B1 v ∧ RqvAt xb B2 qz ∧ Below w.heap.size w xb ∧ RS xb v rs) := ⟨H3.out.2.1.below HXB.out, H3.out.2.2.1.below HXB.out, bthen H3.out.2.2.2.1 HXB.out, H3.out.2.2.2.2.below HXB.out⟩
          go_wp2_with (first | (refine wpList_load_rqv (.tmp 4) rfl B1 v rfl HB.out.1 rfl ?_) | (refine wpList_store_rqv (.tmp 8) (.tmp 45) rfl rfl B2 qz v rfl rfl HB.out.2.1 rfl ?_))
          intro w9 h9 k9
          have H9 : Hid (RqvAt w9 B2 v ∧ RS w9 v rs ∧ Below w.heap.size w w9) := ⟨h9, HB.out.2.2.2.chq k9 HB.out.2.1, HB.out.2.2.1.trans (k9.below (fun q hq => by have := HO.out; omega) HB.out.2.2.1.size)⟩
          clear h9 k9
          go_wp2_with fail
          refine bodyPost_ret (results_rqv2 rfl _ _ B2 _ rfl H9.out.1) rfl ?_
          exact ⟨v, rs, by rw [HE.out]; rfl, H9.out.2.1, by rw [HCS.out]; exact HH.out.2.1, HH.out.2.2.1, H9.out.2.2⟩
        · have q2 : decide (r.c.li.by' < z + size) = false := decide_eq_false hbz
          have HE : Hid (pushE cs (k : Int) size = 0) := by
            show _ = _
            unfold pushE
            rw [if_pos HR.out.2.1, if_pos HSZ.out, HR.out.2.2.1, HRM.out, decide_eq_true (show z + size ≤ r.c.li.by' by omega), decide_eq_true (show (m : Int) < r.c.li.it by omega)]
            rfl
          clear hml hbz
          refine MixH.start (fun A => RlvAt A B3 r ∧ RqvAt A B1 v) (by kernel_rfl) ?_
          obtain ⟨wA, hwA⟩ : ∃ W_, W_ = x3.drew := ⟨_, rfl⟩
          have bdr : Below x3.heap.size x3 wA := by rw [hwA]; exact (Below.refl _ _).drew
          have hS : RlvAt wA B3 r ∧ RqvAt wA B1 v := ⟨H3.out.1.below bdr, H3.out.2.1.below bdr⟩
          have HWA : Hid (Below x3.heap.size x3 wA) := bdr
          have QB : Hid _ := bytesR_any v rs wA (H3.out.2.2.2.2.below bdr) HCO.out (k : Int)
          rw [HBY.out] at QB
          rw [← hwA]
          clear hwA bdr
          refine MixH.takes [true, false, false, true, true] 15 (by kernel_rfl) (by kernel_rfl) (by decide) (by kernel_rfl) hS (fun K hK => ?_)
          simp only [Mix.pick]
          repeat (go_big_quiet_step (fail))
          refine wpQuiet_nil (hK _ ?_)
          clear hK K
          refine MixH.take 14 1 _ (.slice r.la m r.lc) rfl (by kernel_rfl) (by kernel_rfl) (by kernel_rfl) (by kernel_rfl) (yields_ris (.tmp 27) rfl ⟨B3, 5, none⟩ (.slice r.la m r.lc) rfl rfl (fun A hA => (RlvAt.cell hA.1 5).trans (by rw [← HM.out]; rfl))) hS (fun a' ha => ?_)
          simp only [Act.put, List.setIfInBounds_toArray, List.set_cons_succ, List.set_cons_zero] at ha
          subst ha
          refine MixH.takes [false, false, true] 13 (by kernel_rfl) (by kernel_rfl) (by decide) (by kernel_rfl) hS (fun K hK => ?_)
          simp only [Mix.pick]
          repeat (go_big_quiet_step (fail))
          refine wpQuiet_nil (hK _ ?_)
          clear hK K
          refine MixH.take 12 5 _ (.int .i64 r.c.li.it) rfl (by kernel_rfl) (by kernel_rfl) (by kernel_rfl) (by kernel_rfl) (yields_int (.tmp 31) rfl ⟨B3, 1, none⟩ (.int .i64 r.c.li.it) rfl rfl (fun A hA => RlvAt.cell hA.1 1)) hS (fun a' ha => ?_)
          simp only [Act.put, List.setIfInBounds_toArray, List.set_cons_succ, List.set_cons_zero] at ha
          subst ha
          refine MixH.takes [false, false, false, false, false, false, true, true, false, true, false, true, false, true, true] 6 (by kernel_rfl) (by kernel_rfl) (by decide) (by kernel_rfl) hS (fun K hK => ?_)
          simp only [Mix.pick]
          repeat (go_big_quiet_step (fail))
          refine wpQuiet_nil (hK _ ?_)
          clear hK K
          refine MixH.take 5 8 _ (.agg (rqA v)) rfl (by kernel_rfl) (by kernel_rfl) (by kernel_rfl) (by kernel_rfl) (yields_rqv (.tmp 4) rfl B1 0 v rfl rfl (fun A hA => hA.2.all)) hS (fun a' ha => ?_)
          simp only [Act.put, List.setIfInBounds_toArray, List.set_cons_succ, List.set_cons_zero] at ha
          subst ha
          refine MixH.take 4 15 _ (.int .i64 r.c.li.by') rfl (by kernel_rfl) (by kernel_rfl) (by kernel_rfl) (by kernel_rfl) (yields_int (.tmp 41) rfl ⟨B3, 2, none⟩ (.int .i64 r.c.li.by') rfl rfl (fun A hA => RlvAt.cell hA.1 2)) hS (fun a' ha => ?_)
          simp only [Act.put, List.setIfInBounds_toArray, List.set_cons_succ, List.set_cons_zero] at ha
          subst ha
          refine MixH.one [false, false, false, false, false, false, false, false, false, false, true] 3 10 _ rfl rfl (by kernel_rfl) (by kernel_rfl) (fun K hK => ?_)
          simp only [Mix.pick]
          go_wp2_with fail
          refine Calls.mono (QB.out) ?_
          rintro eb xb ⟨rfl, bb⟩
          replace hS : RlvAt xb B3 r ∧ RqvAt xb B1 v := ⟨hS.1.below bb, hS.2.below bb⟩
          have HXB : Hid (Below x3.heap.size x3 xb) := bthen HWA.out bb
          clear bb QB
          go_wp2_with fail
          refine ⟨rfl, hK _ _ hS ?_⟩
          clear hK K
          refine MixH.takes [false, false, false, false, false, false, false, false, false, false, false, false, true, false, false, false, true, true] 0 (by kernel_rfl) (by kernel_rfl) (by decide) (by kernel_rfl) hS (fun K hK => ?_)
          simp only [Mix.pick]
          repeat (go_big_quiet_step (fail))
          refine wpQuiet_nil (hK _ ?_)
          clear hK K
          refine MixH.done (by kernel_rfl) ?_
          clear hS
          have HB : Hid (RlvAt xb B3 r ∧ RqvAt xb B1 v ∧ RqvAt xb B2 qz ∧ Below w.heap.size w xb ∧ RS xb v rs) := ⟨H3.out.1.below HXB.out, H3.out.2.1.below HXB.out, H3.out.2.2.1.below HXB.out, bthen H3.out.2.2.2.1 HXB.out, H3.out.2.2.2.2.below HXB.out⟩
          have c5 : xb.cell? ⟨B3, 5, none⟩ = some (.slice r.la m r.lc) := (HB.out.1.cell 5).trans (by rw [← HM.out]; rfl)
          have HIT : Hid (RIt xb r) := HB.out.2.2.2.2.it r (List.mem_of_getElem? HR.out.1)
          go_upto_region 9 with fail
          go_wp2_with (first | (refine wpList_appG riL_len riL_one (by decide) rfl (.tmp 46) (.tmp 48) 108 124 rfl Try.underlying108 info_ri xb.heap.size (.slice none 0 0) [] rfl GL.nil (fun _ => True) r.la m r.lc r.c.L rfl HM.out HIT.out.1.li (by simp) (by rw [HM.out]; have := HMB.out; omega) (Nat.le_refl _) ?_))
          intro va wa gla ga _
          try rw [List.nil_append] at gla
          have HGA : Hid (GL 2 riL 124 wa xb.heap.size va r.c.L ∧ Below xb.heap.size xb wa) := ⟨gla, ⟨ga.os, ga.tape, ga.output, ga.size, fun q hq => ga.block q hq (by simp [Value.ownBlock])⟩⟩
          obtain ⟨vaa, vac, hva⟩ := gla.form
          rw [HM.out] at hva
          subst hva
          clear gla ga c5
          go_upto_region 10 with fail
          go_wp2_with (first | (refine wpList_bri (.tmp 51) (.tmp 52) rfl size number rfl rfl rfl ?_) | (refine wpList_bs1i (.tmp 53) rfl (number, size) rfl rfl ?_; intro Bi Wi hBi hRi bi) | (refine wpList_app1G riL_len riL_one (by decide) rfl (.tmp 50) (.tmp 54) 108 124 rfl Try.underlying108 info_ri xb.heap.size (.slice vaa m vac) r.c.L rfl (HGA.out.1.below bi) Bi 1 (number, size) rfl (by have := hBi.out; omega) hRi (by rw [HM.out]; have := HMB.out; omega) (Nat.le_trans HGA.out.2.size bi.size) ?_))
          intro vb wb glb gb _
          obtain ⟨lb, lcb, hvb, hlk, hcap1, hcap2⟩ := glb.lk riL_len
          have hlen : (r.c.L ++ [(number, size)]).length = m + 1 := by rw [List.length_append, HM.out]; rfl
          rw [hlen] at hvb hcap1
          have HGB : Hid (LK 2 riL 124 wb lb (r.c.L ++ [(number, size)]) ∧ (r.c.L ++ [(number, size)]).length = m + 1 ∧ m + 1 ≤ lcb ∧ lcb ≤ maxLen ∧ Below xb.heap.size xb wb) := by
            have b1 : Below xb.heap.size xb Wi := bthen HGA.out.2 bi
            have kg : Ch (fun q => (Value.slice vaa m vac).ownBlock = some q) Wi wb := Ch.ofGrown gb
            exact ⟨hlk, hlen, hcap1, hcap2, b1.trans (kg.below (fun q hq => (HGA.out.1.kind q hq).1) b1.size)⟩
          subst hvb
          clear glb gb hlk hcap1 hcap2 hlen hBi hRi bi
          have HC : Hid (RlvAt wb B3 r ∧ RqvAt wb B1 v ∧ RqvAt wb B2 qz ∧ Below w.heap.size w wb ∧ RS wb v rs) := ⟨HB.out.1.below HGB.out.2.2.2.2, HB.out.2.1.below HGB.out.2.2.2.2, HB.out.2.2.1.below HGB.out.2.2.2.2, bthen HB.out.2.2.2.1 HGB.out.2.2.2.2, HB.out.2.2.2.2.below HGB.out.2.2.2.2⟩
          go_upto_region 11 with fail
          obtain ⟨r2, hr2⟩ : ∃ r2 : RL, r2 = ⟨joinC r.c size number, r.de, lb, lcb⟩ := ⟨_, rfl⟩
          have c5 : wb.cell? ⟨B3, 5, none⟩ = some (.slice r.la r.c.L.length r.lc) := HC.out.1.cell 5
          have z5 := HC.out.1.fz 5
          obtain ⟨wc, hwc⟩ : ∃ y, wb.setCell ⟨B3, 5, none⟩ (.slice lb (m + 1) lcb) = y := ⟨_, rfl⟩
          have HWc : Hid (wb.setCell ⟨B3, 5, none⟩ (.slice lb (m + 1) lcb) = wc) := hwc
          have HD : Hid (RlvAt wc B3 r2 ∧ RqvAt wc B1 v ∧ RqvAt wc B2 qz ∧ Below w.heap.size w wc ∧ RS wc v rs ∧ RIt wc r2 ∧ r2.c = joinC r.c size number ∧ r2.de = r.de) := by
            have kk : Ch (fun q => q = B3) wb wc := by rw [← hwc]; exact (Ch.refl (fun q => q = B3) wb).set ⟨B3, 5, none⟩ _ rfl
            have hg := HOL.out
            have ho := HO.out
            have bc : Below w.heap.size w wc := HC.out.2.2.2.1.trans (kk.below (fun q hq => by omega) HC.out.2.2.2.1.size)
            have hi2 : RIt wc r2 := by
              rw [hr2]
              refine ⟨HGB.out.1.chb kk HC.out.1 (by decide), ?_, HGB.out.2.2.2.1⟩
              show (r.c.L ++ [(number, size)]).length ≤ lcb
              rw [HGB.out.2.1]; exact HGB.out.2.2.1
            refine ⟨?_, HC.out.2.1.ch kk (by omega), HC.out.2.2.1.ch kk (by omega), bc, HH.out.1.below bc, hi2, by rw [hr2], by rw [hr2]⟩
            rw [← hwc, hr2]
            refine HC.out.1.set 5 _ ?_
            have e1 : (joinC r.c size number).L.length = m + 1 := HGB.out.2.1
            unfold rlA
            simp only [e1]
            rfl
          clear hwc hr2
          go_upto_region 12 with fail
          rw [HWc.out]
          clear c5 z5
          have QP : Hid _ := put_any v rs k r2 wc HD.out.2.2.2.2.1 (List.getElem?_eq_some_iff.1 HR.out.1).1 HD.out.2.2.2.2.2.1
          go_wp2_with (first | (refine wpList_load_rqv (.tmp 4) rfl B1 v rfl HD.out.2.1 rfl ?_) | (refine wpList_load_rlv (.tmp 10) rfl B3 r2 rfl HD.out.1 rfl ?_))
          refine Calls.mono QP.out ?_
          rintro ep yp ⟨la, lc, rfl, s5, b5⟩
          obtain ⟨v5, hv5⟩ : ∃ v5 : RQ, v5 = ⟨la, v.n, lc, v.at', v.gv⟩ := ⟨_, rfl⟩
          have HP5 : Hid (RS yp v5 (rs.set k r2) ∧ RqvAt yp B2 qz ∧ Below w.heap.size w yp ∧ v5.at' = v.at' ∧ v5.gv = v.gv) := by rw [hv5]; exact ⟨s5, HD.out.2.2.1.below b5, bthen HD.out.2.2.2.1 b5, rfl, rfl⟩
          rw [← hv5]
          clear s5 b5 hv5 QP
          go_wp2_with (first | (refine wpList_store_rqv (.tmp 8) (.tmp 61) rfl rfl B2 qz v5 rfl rfl HP5.out.2.1 rfl ?_))
          intro w9 h9 k9
          have H9 : Hid (RqvAt w9 B2 v5 ∧ RS w9 v5 (rs.set k r2) ∧ Below w.heap.size w w9) := ⟨h9, HP5.out.1.chq k9 HP5.out.2.1, HP5.out.2.2.1.trans (k9.below (fun q hq => by have := HO.out; omega) HP5.out.2.2.1.size)⟩
          clear h9 k9
          go_wp2_with fail
          refine bodyPost_ret (results_rqv2 rfl _ _ B2 _ rfl H9.out.1) rfl ?_
          refine ⟨v5, rs.set k r2, by rw [HE.out]; rfl, H9.out.2.1, ?_, ?_, H9.out.2.2⟩
          · unfold pushCs
            rw [if_pos HE.out, csR_set, HH.out.2.1, HD.out.2.2.2.2.2.2.1, HR.out.2.2.1, Int.toNat_natCast]
          · have h1 := HH.out.2.2.1.put HR.out.1 (r' := r2) (d := r.de) HD.out.2.2.2.2.2.2.2
            refine ⟨HP5.out.2.2.2.1.trans h1.1, HP5.out.2.2.2.2.trans h1.2.1, fun j y hy => ?_⟩
            have h2 := h1.2.2 j y hy
            rw [h2]
            show up t.de k r.de j = t.de j
            by_cases e : j = k
            · subst e; rw [up_same]; exact HH.out.2.2.1.2.2 j r HR.out.1
            · exact up_ne e
  · have hb : inB i 0 ((n : Int) - 1) = false := by
      cases hx : inB i 0 ((n : Int) - 1) with
      | false => rfl
      | true => exact absurd (inB_iff.1 hx) hi
    rw [hb] at QO
    have HE : Hid (pushE cs i size = 181) := by show _ = _; unfold pushE; rw [HN.out.2.2, if_neg hi]
    have HCS : Hid (pushCs cs i size number = cs) := by show _ = _; unfold pushCs; rw [if_neg (by rw [HE.out]; decide)]
    clear hi hb
    go_wp2_with fail
    refine Calls.mono QO.out ?_
    rintro e2 w2 ⟨rfl, rfl⟩
    clear QO
    go_upto_region 2 with fail
    go_wp2_with (first | (refine wpList_load_rqv (.tmp 4) rfl B1 v rfl HB.out.1 rfl ?_) | (refine wpList_store_rqv (.tmp 8) (.tmp 18) rfl rfl B2 qz v rfl rfl HB.out.2.1 rfl ?_))
    intro w9 h9 k9
    have H9 : Hid (RqvAt w9 B2 v ∧ RS w9 v rs ∧ Below w.heap.size w w9) := ⟨h9, HB.out.2.2.2.chq k9 HB.out.2.1, HB.out.2.2.1.trans (k9.below (fun q hq => by have := HO.out; omega) HB.out.2.2.1.size)⟩
    clear h9 k9
    go_wp2_with fail
    refine bodyPost_ret (results_rqv2 rfl _ _ B2 _ rfl H9.out.1) rfl ?_
    exact ⟨v, rs, by rw [HE.out]; rfl, H9.out.2.1, by rw [HCS.out]; exact HH.out.2.1, HH.out.2.2.1, H9.out.2.2⟩
end Go.Proofs.Ytcdbhkihbfjedaa
