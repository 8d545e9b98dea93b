/-
  The walk of SumAdds: it answers true, whatever parts it is handed, and writes nothing that was there.
-/
import Derived.Test.YtfnmidaiabjpbabLaid2
import Derived.Test.YtfnmidaiabjpbabSRef
namespace Go.Proofs.Ytfnmidaiabjpbab.sumAdds
open Go.RowKit

set_option maxHeartbeats 1600000 in
set_option maxRecDepth 100000 in
theorem walk (a : Option Addr) (n cap : Nat) (ps : List Part) (w : World) (hn : ps.length = n) (hps : Parts w a ps) (hn2 : n ≤ 9223372036854775807) :
    Calls Try.prog 3 #[.slice a n cap] w fun e w' => e = .returned (.bool true) ∧ Below w.heap.size w w' := by
  go_enter Try.func3, Try.ntmps3
  go_wp2_with fail
  refine (awake_any _).mono ?_
  rintro e w1 ⟨rfl, hb1⟩
  have hps1 : Parts w1 a ps := ⟨by
    rcases hps.1 with h | ⟨b, off, e, hc⟩
    · exact .inl h
    · exact .inr ⟨b, off, e, fun i hi => (hb1.cell (p := ⟨b, off + i, none⟩) (World.block_lt_of_cell? w _ (hc i hi))).trans (hc i hi)⟩, fun p hp => (hps.2 p hp).old hb1⟩
  go_wp2_with fail
  refine (laid_any a n cap ps w1 hn hps1 hn2).mono ?_
  rintro e w2 ⟨oa, oc, g, m, c, wa, wc, qs, AL, rfl, hop, hoA, hoW, hPI, hA, hm, hall, hq300, hb2⟩
  have hb02 := bthen hb1 hb2
  have hparts : ∀ w', Below w2.heap.size w2 w' → Parts w' oa qs := fun w' h => parts_own (own_below hop h) (fun q hq => ((hPI q hq).ok hoA hA).old h)
  have HP : Hid _ := hparts
  obtain ⟨f, hf⟩ : ∃ f, f = S.fold (S.wv false (allB qs)) := ⟨_, rfl⟩
  have HF : Hid (S.fold (S.wv false (allB qs)) = f) := hf.symm
  have hfl : f ≤ 65535 := by rw [hf]; exact S.fold_le _
  obtain ⟨Q, hQ⟩ : ∃ Q, Q = qs.length := ⟨_, rfl⟩
  have HQ : Hid (qs.length = Q) := hQ.symm
  rw [← hQ] at hq300 ⊢
  have hall256 : ∀ x ∈ allB qs, x < 256 := allB_lt qs (fun q hq => ((hPI q hq).ok hoA hA).2.1)
  obtain ⟨J, hJ⟩ : ∃ J, J = (allB qs).length := ⟨_, rfl⟩
  have HJ : Hid ((allB qs).length = J) := hJ.symm
  rw [← hJ] at hall
  clear hf hQ hJ hparts hps hps1 hb1 hb2 hPI
  go_wp2_with fail
  refine (joined_any oa Q oc qs _ HQ.out (HP.out _ (Below.refl _ _)) (by rw [HJ.out]; omega) (by omega)).mono ?_
  rintro e w3 ⟨v3, rfl, ho3, hb3⟩
  rw [HJ.out] at ho3
  obtain ⟨ja, jc, rfl⟩ := owns_shape ho3
  have hdeep : Part.ok w3 ⟨ja, jc, allB qs⟩ := OwnB.part ho3 hall256
  go_wp2_with fail
  have hb34 : Below w2.heap.size w2 (w3.alloc (.cells #[.slice ja J jc] 24)) := hb3.alloc hb3.size _
  have hval : Part.val ⟨ja, jc, allB qs⟩ = .slice ja J jc := by rw [Part.val, HJ.out]
  have hdp : Parts (w3.alloc (.cells #[.slice ja J jc] 24)) (some ⟨w3.heap.size, 0, none⟩) [⟨ja, jc, allB qs⟩] := by
    have := parts_new w3 [⟨ja, jc, allB qs⟩] 24 (by intro p hp; simp at hp; subst hp; exact hdeep)
    rw [List.map_cons, List.map_nil, hval] at this
    exact this
  obtain ⟨w4, hw4⟩ : ∃ w4, w4 = w3.alloc (.cells #[.slice ja J jc] 24) := ⟨_, rfl⟩
  rw [← hw4] at hb34 hdp ⊢
  have hold : ∀ w', Below w4.heap.size w4 w' → Parts w' (some ⟨w3.heap.size, 0, none⟩) [⟨ja, jc, allB qs⟩] := fun w' h => ⟨by
    rcases hdp.1 with h0 | ⟨b, off, e, hc⟩
    · cases h0
    · exact .inr ⟨b, off, e, fun i hi => (h.cell (p := ⟨b, off + i, none⟩) (World.block_lt_of_cell? w4 _ (hc i hi))).trans (hc i hi)⟩, fun p hp => (hdp.2 p hp).old h⟩
  have HDP : Hid _ := hold
  have hdl : allB [(⟨ja, jc, allB qs⟩ : Part)] = allB qs := by simp [allB]
  have HDL : Hid _ := hdl
  obtain ⟨G, hG⟩ : ∃ G, G = w3.heap.size := ⟨_, rfl⟩
  rw [← hG] at HDP ⊢
  clear hw4 hval hdp hold hdl hG hdeep ho3 hb3
  go_wp2_with fail
  refine (sum_any oa Q oc qs _ HQ.out (HP.out _ hb34) (by rw [HJ.out]; omega) (by omega)).mono ?_
  rintro e w5 ⟨rfl, hb5⟩
  rw [HF.out]
  have hb25 := bthen hb34 hb5
  go_wp2_with fail
  refine (check_any oa Q oc qs _ HQ.out (HP.out _ hb25) (by rw [HJ.out]; omega) (by omega)).mono ?_
  rintro e w6 ⟨rfl, hb6⟩
  rw [HF.out]
  have hb26 := bthen hb25 hb6
  go_wp2_with fail
  refine (good_any oa Q oc qs _ HQ.out (HP.out _ hb26) (by rw [HJ.out]; omega) (by omega)).mono ?_
  rintro e w7 ⟨rfl, hb7⟩
  rw [HF.out]
  have hb27 := bthen hb26 hb7
  have hb47 := bthen (bthen hb5 hb6) hb7
  have hff : ((f : Int) == (f : Int)) = true := by simp
  have hcc : (((65535 - f : Nat) : Int) == ((65535 - f : Nat) : Int)) = true := by simp
  obtain ⟨C, hC⟩ : ∃ C, C = 65535 - f := ⟨_, rfl⟩
  rw [← hC] at hcc ⊢
  have HC : Hid (65535 - f = C) := hC.symm
  clear hC
  obtain ⟨d, hd⟩ : ∃ d, d = decide (f = 65535) := ⟨_, rfl⟩
  rw [← hd]
  have HD : Hid (decide (f = 65535) = d) := hd.symm
  have hdd : (d == d) = true := by simp
  clear hd
  go_wp2_with fail
  refine (rsum_any (some ⟨G, 0, none⟩) 1 1 [⟨ja, jc, allB qs⟩] _ rfl (HDP.out _ hb47) (by rw [HDL.out, HJ.out]; omega) (by omega)).mono ?_
  rintro e w8 ⟨rfl, rfl⟩
  rw [HDL.out, HF.out]
  go_wp2_with fail
  refine (rcheck_any (some ⟨G, 0, none⟩) 1 1 [⟨ja, jc, allB qs⟩] _ rfl (HDP.out _ hb47) (by rw [HDL.out, HJ.out]; omega) (by omega)).mono ?_
  rintro e w8 ⟨rfl, rfl⟩
  rw [HDL.out, HF.out, HC.out]
  go_wp2_with fail
  refine (rgood_any (some ⟨G, 0, none⟩) 1 1 [⟨ja, jc, allB qs⟩] _ rfl (HDP.out _ hb47) (by rw [HDL.out, HJ.out]; omega) (by omega)).mono ?_
  rintro e w8 ⟨rfl, rfl⟩
  rw [HDL.out, HF.out, HD.out]
  go_wp2_with fail
  refine (same_any (some ⟨g, 0, none⟩) wa m m c wc AL AL _ (OwnB.len hoA) (OwnB.len hoA) ((owns_seg_at hoA).1.old hb27) ((owns_seg_at hoW).1.old hb27) (by omega)).mono ?_
  rintro e w9 ⟨rfl, hb9⟩
  rw [decide_eq_true rfl]
  go_wp2
  go_ret
  exact ⟨rfl, bthen hb02 (bthen hb27 hb9)⟩
end Go.Proofs.Ytfnmidaiabjpbab.sumAdds
