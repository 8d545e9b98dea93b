/-
  Layer 14: the iterator of prefixes, of which only its own cell must stay.
-/
import Derived.Test.YtdjbfhllialinaaDoorRtLs
namespace Go.Proofs.YtdjbfhllialinaaDoor
open Go.RowKit Go.Maps Go.Shelf
attribute [local go_sem] Oper.semAt_some

def KB (Bi : Nat) (A B : World) : Prop := B.heap[Bi]? = A.heap[Bi]? ∧ A.heap.size ≤ B.heap.size
theorem KB.tr {Bi : Nat} {A B C : World} (h : KB Bi A B) (k : KB Bi B C) : KB Bi A C := ⟨k.1.trans h.1, Nat.le_trans h.2 k.2⟩
theorem KB.ch {Bi : Nat} {S : Nat → Prop} {A B : World} (k : Ch S A B) (hlt : Bi < A.heap.size) (hS : ¬ S Bi) : KB Bi A B := ⟨k.block Bi hlt hS, k.size⟩
theorem KB.put {Bi n : Nat} (hn : Bi < n) : ∀ (W : World) (l : Nat) (o o' : Obj), n ≤ l → W.heap[l]? = some o → o.isCells = false → o.isWalk = false → KB Bi W (W.putObj l o') := fun W l o o' hl _ _ _ => ⟨by
  simp only [World.putObj]
  rw [Array.getElem?_setIfInBounds, if_neg (by omega)], by simp [World.putObj]⟩
set_option maxRecDepth 100000 in
set_option maxHeartbeats 3200000 in
theorem prefixes_stopsK (n : Nat) (Bi n₀ : Nat) (V : Int) (x : Nat → Nat) (hv : (Lit.int .i64 V).wf = true) (hx : ∀ i, i < 16 → x i < 256) (w : World) (hBi : Bi < n₀) (hn₀ : n₀ ≤ w.heap.size) (hI : IprAt w Bi V x) :
    SeqStopsK Fence.wide n Tryd.prog 22 #[.pointer (some ⟨Bi, 0, none⟩)] (fun p : PW => #[.agg (pfC p.1)]) (KB Bi) (fun xs => xs = uptoW V x hv hx (cnP V x)) (fun pre => ∃ j, j ≤ cnP V x ∧ pre = uptoW V x hv hx j) (cnP V x) w := fun l J Jx W hW hJ hJx hY h0 => by
  refine callsIn_of_wp Tryd.func22 rfl trivial ?_ rfl
  simp only [Tryd.ntmps22, List.size_toArray, List.length_cons, List.length_nil, Nat.reduceAdd, Nat.reduceSub, Array.replicate_succ, Array.replicate_zero, List.push_toArray, List.append_toArray, List.nil_append, List.cons_append]
  have HI : Hid (IprAt W Bi V x) := hI.below hW
  have HBi : Hid (Bi < n₀ ∧ n₀ ≤ W.heap.size) := ⟨hBi, Nat.le_trans hn₀ hW.size⟩
  have HY : Hid _ := hY
  have HJ : Hid _ := hJ
  have HX : Hid (∀ i, i < 16 → x i < 256) := hx
  have QB : Hid _ := rbits_any V x W
  obtain ⟨bt, hbt⟩ : ∃ bt, bt = bitV V := ⟨_, rfl⟩
  rw [← hbt] at QB
  have HBT : Hid (bitV V = bt) := hbt.symm
  have H0 : Hid (J [] W) := h0
  clear hY hJ h0 hI hbt hBi hn₀
  gi_wp2_with (first | (refine wpListIn_load_ipr (.tmp 1) rfl Bi V x rfl HI.out rfl ?_))
  refine ⟨trivial, (fun h => by cases h), CallsIn.mono (callsIn_wide.2 QB.out) ?_⟩
  rintro e w1 ⟨rfl, hb1⟩
  have HI1 : Hid (IprAt w1 Bi V x ∧ J [] w1 ∧ Below W.heap.size W w1) := ⟨HI.out.below hb1, HJ.out [] W w1 none H0.out ⟨hb1.os, hb1.tape, hb1.output, hb1.size, fun k hk _ => hb1.block k hk⟩ (fun r e => by cases e), hb1⟩
  have HW0 : Hid (Fence.wide.depth.isSome = true → 1 ≤ n) := fun h => by cases h
  clear HI H0 QB hb1
  gi_wp2
  gi_loopw [3] (fun nv wr => ∃ j : Nat, nv = .int .i64 ((bt : Int) - (j : Int)) ∧ j ≤ bt + 1 ∧ Hid (IprAt wr Bi V x ∧ J (uptoW V x hv hx j) wr ∧ W.heap.size ≤ wr.heap.size ∧ (j = 0 ∨ vld V x = true))) (fun nv _ => (intOf nv + 1).toNat)
  case atStart => exact ⟨0, by simp, by omega, HI1.out.1, HI1.out.2.1, HI1.out.2.2.size, .inl rfl⟩
  case round =>
    obtain ⟨j, rfl, hj, HR⟩ := hrel
    clear HI1
    have hbt8 : bt ≤ 128 := by rw [← HBT.out]; exact bitV_le V
    by_cases hlast : j = bt + 1
    · have q1 : decide ((bt : Int) - (j : Int) ≥ 0) = false := by simp; omega
      have q2 : ¬ (0 : Int) ≤ (bt : Int) - (j : Int) := by omega
      have q3 : ¬ (j : Int) ≤ (bt : Int) := by omega
      have HL : Hid (j = bt + 1) := hlast
      clear hlast
      gi_wp2
      go_end0
      refine ⟨⟨_, rfl⟩, .inl ?_⟩
      have e : cnP V x = j := by
        unfold cnP
        rw [if_pos (HR.out.2.2.2.resolve_left (by have := HL.out; omega)), HBT.out, HL.out]
      rw [e]
      exact HR.out.2.1
    · have q1 : decide ((bt : Int) - (j : Int) ≥ 0) = true := by simp; omega
      have q2 : (0 : Int) ≤ (bt : Int) - (j : Int) := by omega
      have q3 : (j : Int) ≤ (bt : Int) := by omega
      have hjb : j ≤ bt := by omega
      clear hlast hj
      by_cases hvl : vld V x = true
      · have QM : Hid (Calls Tryd.prog 24 #[.agg (ipCells V x), .int .i64 ((bt : Int) - (j : Int))] wr fun e w' => e = .returned (.tuple #[.agg (ipCells V (hdA x (bt - j))), .int .i64 0]) ∧ Below wr.heap.size wr w') := by
          have h := mask_any V x ((bt : Int) - (j : Int)) wr HX.out
          have e0 : mkE V x ((bt : Int) - (j : Int)) = 0 := by
            unfold mkE
            rw [hvl, HBT.out, if_neg (by simp), if_neg (by omega)]
          have e1 : ((bt : Int) - (j : Int)).toNat = bt - j := by omega
          unfold mkV mkX at h
          rw [e0, e1, if_pos rfl, if_pos rfl] at h
          exact h
        have HCN : Hid (cnP V x = bt + 1) := by show _ = _; unfold cnP; rw [if_pos hvl, HBT.out]
        have HVL : Hid (vld V x = true) := hvl
        clear hvl
        gi_wp2_with (first | (refine wpListIn_load_ipr (.tmp 1) rfl Bi V x rfl HR.out.1 rfl ?_))
        refine ⟨trivial, (fun h => by cases h), CallsIn.mono (callsIn_wide.2 QM.out) ?_⟩
        rintro e w2 ⟨rfl, hb2⟩
        have HB2 : Hid (Below wr.heap.size wr w2) := hb2
        clear hb2 QM
        obtain ⟨f, hf⟩ : ∃ f, f = hdA x (bt - j) := ⟨_, rfl⟩
        have HF : Hid (hdA x (bt - j) = f) := hf.symm
        rw [← hf]
        clear hf
        gi_wp2_with (first | (refine wpListIn_alloc_ipr rfl rfl ?_) | (refine wpListIn_store_ipr (.tmp 4) (.tmp 16) rfl rfl w2.heap.size 0 (fun _ => 0) V f rfl rfl (ipr_new w2 0 (fun _ => 0)) rfl ?_))
        intro w3 hR3 k3
        have bz : Below w2.heap.size w2 (w2.alloc (.cells (ipCells 0 (fun _ => 0)) 25)) := (Below.refl _ _).alloc (Nat.le_refl _) _
        have b23 : Below w2.heap.size w2 w3 := bz.trans (k3.below (fun q e => by have e' : q = w2.heap.size := e; omega) bz.size)
        have b3 : Below wr.heap.size wr w3 := bthen HB2.out b23
        have HR3 : Hid (IprAt w3 w2.heap.size V f) := hR3
        have HJ3 : Hid (J (uptoW V x hv hx j) w3 ∧ IprAt w3 Bi V x ∧ W.heap.size ≤ w3.heap.size) := ⟨HJ.out _ wr w3 none HR.out.2.1 ⟨b3.os, b3.tape, b3.output, b3.size, fun k hk _ => b3.block k hk⟩ (fun r e => by cases e), HR.out.1.below b3, Nat.le_trans HR.out.2.2.1 b3.size⟩
        clear hR3 k3 bz b23 b3 HB2 HR
        obtain ⟨yfn, ytm, yas, ybd, hy, hR⟩ := HY.out (uptoW V x hv hx j) (elW V x hv hx j) w3 HJ3.out.1 (by rw [uptoW_len, HCN.out]; omega)
        have ee : (elW V x hv hx j).1 = ⟨V, f, (bt : Int) - (j : Int)⟩ := by
          show (⟨V, hdA x (bitV V - j), ((bitV V - j : Nat) : Int)⟩ : PV) = _
          rw [HBT.out, HF.out]
          congr 1
          omega
        rw [ee] at hy
        have HRD : Hid _ := hR
        clear ee hR
        gi_wp2_with (first | (refine wpListIn_load_ipr (.tmp 4) rfl w2.heap.size V f rfl HR3.out rfl ?_) | (refine wpListIn_build_pfx (.tmp 22) (.tmp 23) rfl V f ((bt : Int) - (j : Int)) rfl rfl rfl ?_))
        refine ⟨(fun h => by cases h), RoundIn.mono HRD.out ?_⟩
        rintro e w4 (⟨rfl, hJ4, hk4⟩ | ⟨rfl, hJx4⟩)
        · have HJ4 : Hid (J (uptoW V x hv hx (j + 1)) w4 ∧ IprAt w4 Bi V x ∧ W.heap.size ≤ w4.heap.size) := ⟨by rw [uptoW_succ]; exact hJ4, hk4.1.trans HJ3.out.2.1, Nat.le_trans HJ3.out.2.2 hk4.2⟩
          have wj : IntKind.i64.wrap ((bt : Int) - (j : Int) - 1) = (bt : Int) - (j : Int) - 1 := by rw [IntKind.wrap_i64]; omega
          clear hJ4 hk4 HRD hy HJ3 HR3
          gi_wp2
          go_roundw
          case rel => exact ⟨j + 1, by simp; omega, by omega, HJ4.out.2.1, HJ4.out.1, HJ4.out.2.2, .inr HVL.out⟩
          case measure => simp [intOf]; omega
        · have HJ4 : Hid (Jx (uptoW V x hv hx (j + 1)) w4) := by show Jx _ w4; rw [uptoW_succ]; exact hJx4
          clear hJx4 HRD hy HJ3 HR3
          gi_wp2
          refine bodyPost_ret (results_none rfl _ _ _) rfl ?_
          exact ⟨⟨_, rfl⟩, .inr ⟨_, ⟨j + 1, by rw [HCN.out]; omega, rfl⟩, HJ4.out⟩⟩
      · have hvf : vld V x = false := by simpa using hvl
        have hj0 : j = 0 := HR.out.2.2.2.resolve_right hvl
        have QM : Hid (Calls Tryd.prog 24 #[.agg (ipCells V x), .int .i64 ((bt : Int) - (j : Int))] wr fun e w' => e = .returned (.tuple #[.agg (ipCells 0 (fun _ => 0)), .int .i64 40]) ∧ Below wr.heap.size wr w') := by
          have h := mask_any V x ((bt : Int) - (j : Int)) wr HX.out
          have e0 : mkE V x ((bt : Int) - (j : Int)) = 40 := by
            unfold mkE
            rw [hvf, if_pos rfl]
          unfold mkV mkX at h
          rw [e0, if_neg (by decide), if_neg (by decide)] at h
          exact h
        have HCN : Hid (cnP V x = j) := by show _ = _; unfold cnP; rw [if_neg hvl, hj0]
        clear hvl hvf hj0
        gi_wp2_with (first | (refine wpListIn_load_ipr (.tmp 1) rfl Bi V x rfl HR.out.1 rfl ?_))
        refine ⟨trivial, (fun h => by cases h), CallsIn.mono (callsIn_wide.2 QM.out) ?_⟩
        rintro e w2 ⟨rfl, hb2⟩
        have HB2 : Hid (Below wr.heap.size wr w2) := hb2
        clear hb2 QM
        gi_wp2_with (first | (refine wpListIn_alloc_ipr rfl rfl ?_) | (refine wpListIn_store_ipr (.tmp 4) (.tmp 16) rfl rfl w2.heap.size 0 (fun _ => 0) 0 (fun _ => 0) rfl rfl (ipr_new w2 0 (fun _ => 0)) rfl ?_))
        intro w3 hR3 k3
        have bz : Below w2.heap.size w2 (w2.alloc (.cells (ipCells 0 (fun _ => 0)) 25)) := (Below.refl _ _).alloc (Nat.le_refl _) _
        have b23 : Below w2.heap.size w2 w3 := bz.trans (k3.below (fun q e => by have e' : q = w2.heap.size := e; omega) bz.size)
        have b3 : Below wr.heap.size wr w3 := bthen HB2.out b23
        have HJ3 : Hid (J (uptoW V x hv hx j) w3) := HJ.out _ wr w3 none HR.out.2.1 ⟨b3.os, b3.tape, b3.output, b3.size, fun k hk _ => b3.block k hk⟩ (fun r e => by cases e)
        clear hR3 k3 bz b23 b3 HB2 HR
        gi_wp2
        refine ⟨(fun _ h => by cases h), ?_⟩
        gi_wp2
        refine bodyPost_ret (results_none rfl _ _ _) rfl ?_
        refine ⟨⟨_, rfl⟩, .inl ?_⟩
        rw [HCN.out]
        exact ⟨_, rfl, HJ3.out⟩
end Go.Proofs.YtdjbfhllialinaaDoor
