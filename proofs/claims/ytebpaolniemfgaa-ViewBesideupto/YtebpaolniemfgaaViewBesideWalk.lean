/-
  The walk of ViewBeside: it answers true, and writes nothing that was there.
-/
import Derived.Test.YtebpaolniemfgaaTotal
namespace Go.Proofs.Ytebpaolniemfgaa.viewBeside
open Go.RowKit

theorem all3 {a b c : List Nat} (ha : ∀ x ∈ a, x < 256) (hb : ∀ x ∈ b, x < 256) (hc : ∀ x ∈ c, x < 256) : ∀ x ∈ a ++ b ++ c, x < 256 := by
  intro x hx
  simp only [List.mem_append] at hx
  rcases hx with (hx | hx) | hx
  · exact ha x hx
  · exact hb x hx
  · exact hc x hx
theorem mid (xs bs ys : List Nat) (n : Nat) (h : n ≤ bs.length) : ((xs ++ bs ++ ys).drop xs.length).take n = bs.take n := by
  rw [List.append_assoc, List.drop_left, List.take_append_of_le_length h]

set_option maxHeartbeats 1600000 in
theorem walk (a0 : Option Addr) (len0 cap0 : Nat) (z0 : List Int) (a1 : Int) (a2 : Option Addr) (len2 cap2 : Nat) (z2 : List Int) (a3 : Option Addr) (len3 cap3 : Nat) (z3 : List Int) (a4 : Option Addr) (len4 cap4 : Nat) (z4 : List Int) (w : World) (w0 : IsRow .u8 w a0 len0 cap0 z0) (w1 : (Lit.int .i64 a1).wf = true) (w2 : IsRow .u8 w a2 len2 cap2 z2) (w3 : IsRow .u8 w a3 len3 cap3 z3) (w4 : IsRow .i64 w a4 len4 cap4 z4)
    (n0 : cap0 ≤ 1048576) (n2 : cap2 ≤ 1048576) (n3 : cap3 ≤ 1048576) (n4 : cap4 ≤ 1048576) :
    Calls Try.prog 5 #[.slice a0 len0 cap0, .int .i64 a1, .slice a2 len2 cap2, .slice a3 len3 cap3, .slice a4 len4 cap4] w fun e w' => e = .returned (.bool true) ∧ Below w.heap.size w w' := by
  obtain ⟨bs, rfl, hb, h0, _, hb256⟩ := w0.bytes
  obtain ⟨xs, rfl, hx, h2, _, hx256⟩ := w2.bytes
  obtain ⟨ys, rfl, hy, h3, _, hy256⟩ := w3.bytes
  obtain ⟨ws, rfl, hw, h4, _, _⟩ := w4.seg
  have hn : a1 ≤ 9223372036854775807 := by
    simp [Lit.wf, IntKind.min, IntKind.max, IntKind.bits, IntKind.signed] at w1
    omega
  clear w0 w1 w2 w3 w4
  have hl : (xs ++ bs ++ ys).length = xs.length + bs.length + ys.length := by simp; omega
  have h256 := all3 hx256 hb256 hy256
  -- what the looks at the whole answer where those at the part are answered
  have HU : Hid (uE bs.length 0 a1 = 0 → uE (xs.length + bs.length + ys.length) xs.length a1 = 0 ∧ uV (xs ++ bs ++ ys) xs.length a1 = uV bs 0 a1) := by
    intro h
    have h' := (uE_zero _ _ _).1 h
    have h2 : uE (xs.length + bs.length + ys.length) xs.length a1 = 0 := (uE_zero _ _ _).2 (by omega)
    refine ⟨h2, ?_⟩
    rw [uV, uV, hl, if_pos h2, if_pos h, Int.toNat_natCast, mid xs bs ys a1.toNat (by omega)]
    simp
  have HW : Hid (wE bs.length 0 a1 = 0 → wE (xs.length + bs.length + ys.length) xs.length a1 = 0 ∧ wB (xs ++ bs ++ ys) xs.length a1 = wB bs 0 a1) := by
    intro h
    have h' := (wE_zero _ _ _).1 h
    have h2 : wE (xs.length + bs.length + ys.length) xs.length a1 = 0 := (wE_zero _ _ _).2 (by omega)
    refine ⟨h2, ?_⟩
    rw [wB, wB, hl, if_pos h2, if_pos h, Int.toNat_natCast, mid xs bs ys a1.toNat (by omega)]
    simp
  have HF : Hid (fE bs.length 0 ws = 0 → fE (xs.length + bs.length + ys.length) xs.length ws = 0 ∧ fV (xs ++ bs ++ ys) xs.length ws = fV bs 0 ws ∧ fP (xs.length + bs.length + ys.length) xs.length ws = fP bs.length 0 ws + xs.length) := by
    intro h
    have h' := (fE_zero _ _ _).1 h
    have h2 : fE (xs.length + bs.length + ys.length) xs.length ws = 0 := (fE_zero _ _ _).2 ⟨h'.1, by omega, by omega⟩
    refine ⟨h2, ?_, ?_⟩
    · rw [fV, fV, hl, if_pos h2, if_pos h, Int.toNat_natCast, mid xs bs ys _ (by omega)]
      simp
    · rw [fP, fP, if_pos h2, if_pos h]
      omega
  have hwB : (wB bs 0 a1).length ≤ bs.length := by
    unfold wB
    split
    · simp; omega
    · simp
  have hfV : (fV bs 0 ws).length ≤ ws.length := by
    unfold fV
    split
    · rw [M.length_fieldsN]; simp
    · simp
  have hp : 0 ≤ fP bs.length 0 ws ∧ fP bs.length 0 ws ≤ 1048576 := by
    unfold fP
    split
    · rename_i h
      have h' := (fE_zero _ _ _).1 h
      obtain ⟨wn, rfl, _, _, _⟩ := okW_nat ws h'.1
      rw [sumI_toI] at h' ⊢
      omega
    · omega
  obtain ⟨hp0, hp1⟩ := hp
  have hc256 : ∀ x ∈ wB bs 0 a1, x < 256 := by
    unfold wB
    split
    · exact fun x hx => hb256 x (List.mem_of_mem_drop (List.mem_of_mem_take hx))
    · intro x hx; cases hx
  go_enter Try.func5, Try.ntmps5
  go_wp2_with fail
  refine (uint_total a0 bs.length cap0 0 a1 bs w rfl hb hb256 h0 (by omega) (by omega)).mono ?_
  rintro e w1 ⟨rfl, hb1⟩
  go_wp2_with fail
  refine (fields_total a0 a4 bs.length cap0 ws.length cap4 0 bs ws w1 rfl rfl (hb.old hb1) (hw.old hb1) hb256 h0 (by omega) (by omega) (by omega)).mono ?_
  rintro e w2 ⟨fv, rfl, hfo, hb2⟩
  obtain ⟨fa, fc, rfl, hfs, _, _, _⟩ := owns_seg hfo
  clear hfo
  have hb12 : Below w.heap.size w w2 := hb1.trans (hb2.mono hb1.size)
  go_wp2_with fail
  refine (window_total a0 bs.length cap0 0 a1 bs w2 rfl (hb.old hb12) h0 (by omega) (by omega) hn).mono ?_
  rintro e w3 ⟨wa, rfl, hws, hb3⟩
  have hb13 : Below w.heap.size w w3 := hb12.trans (hb3.mono hb12.size)
  have hfs3 := hfs.old hb3
  go_wp2_with fail
  refine (join_any a2 a0 a3 cap2 cap0 cap3 xs bs ys w3 (hx.old hb13) (hb.old hb13) (hy.old hb13) (by omega)).mono ?_
  rintro e w4 ⟨jv, rfl, hjo, hb4⟩
  obtain ⟨ja, jc, rfl, hjs, _, hjc, hjm⟩ := owns_seg hjo
  have hjm' : jc ≤ 9223372036854775807 := by unfold maxLen at hjm; exact hjm
  have hB : Below w.heap.size w w4 := hb13.trans (hb4.mono hb13.size)
  have hL := hfs3.old hb4
  have hS := hws.old hb4
  clear hjo hjm hfs hfs3 hb1 hb2 hb12 hb3 hb13 hb4 hws
  have HL : Hid ((xs ++ bs ++ ys).length = xs.length + bs.length + ys.length) := hl
  clear hl
  by_cases hU : uE bs.length 0 a1 = 0
  · have hqU : (uE bs.length 0 a1 == 0) = true := beq_iff_eq.2 hU
    obtain ⟨q1, q2⟩ := HU.out hU
    have HU1 : Hid _ := q1
    have HU2 : Hid _ := q2
    clear q1 q2 hU
    by_cases hF : fE bs.length 0 ws = 0
    · have hqF : (fE bs.length 0 ws == 0) = true := beq_iff_eq.2 hF
      obtain ⟨q1, q2, q3⟩ := HF.out hF
      have HF1 : Hid _ := q1
      have HF2 : Hid _ := q2
      have HF3 : Hid _ := q3
      clear q1 q2 q3 hF
      by_cases hW : wE bs.length 0 a1 = 0
      · have hqW : (wE bs.length 0 a1 == 0) = true := beq_iff_eq.2 hW
        obtain ⟨q1, q2⟩ := HW.out hW
        have HW1 : Hid _ := q1
        have HW2 : Hid _ := q2
        clear q1 q2 hW
        go_wp2_with (first
          | (go_at_call 10; refine (num_any _ _).mono ?_; rintro e w' ⟨rfl, rfl⟩)
          | (go_at_call 16; refine (uint_total ja _ jc xs.length a1 (xs ++ bs ++ ys) _ HL.out hjs h256 hjc hjm' (by omega)).mono ?_; rintro e wn ⟨rfl, hn'⟩; rw [HU1.out, HU2.out]; replace hjs := hjs.old hn'; replace hL := hL.old hn'; replace hS := hS.old hn'; replace hB := hB.trans (hn'.mono hB.size); clear hn')
          | (go_at_call 9; refine (fields_total ja a4 _ jc ws.length cap4 xs.length (xs ++ bs ++ ys) ws _ HL.out rfl hjs (hw.old hB) h256 hjc hjm' (by omega) (by omega)).mono ?_; rintro e wn ⟨mv, rfl, hmo, hn'⟩; rw [HF1.out, HF3.out]; rw [HF2.out] at hmo; obtain ⟨ma, mc, rfl, hms, _, _, _⟩ := owns_seg hmo; replace hjs := hjs.old hn'; replace hL := hL.old hn'; replace hS := hS.old hn'; replace hB := hB.trans (hn'.mono hB.size); clear hn' hmo)
          | (go_at_call 15; refine (sameInts_true fa ma fc mc _ (toI (fV bs 0 ws)) _ hL hms (toI_len _) (by omega)).mono ?_; rintro e wn ⟨rfl, hn'⟩; replace hjs := hjs.old hn'; replace hS := hS.old hn'; replace hB := hB.trans (hn'.mono hB.size); clear hn' hms hL)
          | (go_at_call 17; refine (window_total ja _ jc xs.length a1 (xs ++ bs ++ ys) _ HL.out hjs hjc hjm' (by omega) hn).mono ?_; rintro e wn ⟨va, rfl, hvs, hn'⟩; rw [HW1.out, HW2.out]; rw [HW2.out] at hvs; replace hS := hS.old hn'; replace hB := hB.trans (hn'.mono hB.size); clear hn' hjs)
          | (go_at_call 13; refine (same_true va wa _ _ _ (wB bs 0 a1) _ hvs hS rfl hc256).mono ?_; rintro e w' ⟨rfl, rfl⟩)
          | (go_at_call 11; refine (started_any _).mono ?_; rintro e wn ⟨rfl, hn'⟩; replace hB := hB.trans (hn'.mono hB.size); clear hn'))
        go_ret
        exact ⟨rfl, by assumption⟩
      · have hqW : (wE bs.length 0 a1 == 0) = false := beq_eq_false_iff_ne.2 hW
        clear hW
        go_wp2_with (first
          | (go_at_call 10; refine (num_any _ _).mono ?_; rintro e w' ⟨rfl, rfl⟩)
          | (go_at_call 16; refine (uint_total ja _ jc xs.length a1 (xs ++ bs ++ ys) _ HL.out hjs h256 hjc hjm' (by omega)).mono ?_; rintro e wn ⟨rfl, hn'⟩; rw [HU1.out, HU2.out]; replace hjs := hjs.old hn'; replace hL := hL.old hn'; replace hS := hS.old hn'; replace hB := hB.trans (hn'.mono hB.size); clear hn')
          | (go_at_call 9; refine (fields_total ja a4 _ jc ws.length cap4 xs.length (xs ++ bs ++ ys) ws _ HL.out rfl hjs (hw.old hB) h256 hjc hjm' (by omega) (by omega)).mono ?_; rintro e wn ⟨mv, rfl, hmo, hn'⟩; rw [HF1.out, HF3.out]; rw [HF2.out] at hmo; obtain ⟨ma, mc, rfl, hms, _, _, _⟩ := owns_seg hmo; replace hjs := hjs.old hn'; replace hL := hL.old hn'; replace hS := hS.old hn'; replace hB := hB.trans (hn'.mono hB.size); clear hn' hmo)
          | (go_at_call 15; refine (sameInts_true fa ma fc mc _ (toI (fV bs 0 ws)) _ hL hms (toI_len _) (by omega)).mono ?_; rintro e wn ⟨rfl, hn'⟩; replace hjs := hjs.old hn'; replace hS := hS.old hn'; replace hB := hB.trans (hn'.mono hB.size); clear hn' hms hL)
          | (go_at_call 17; refine (window_total ja _ jc xs.length a1 (xs ++ bs ++ ys) _ HL.out hjs hjc hjm' (by omega) hn).mono ?_; rintro e wn ⟨va, rfl, hvs, hn'⟩; rw [HW1.out, HW2.out]; rw [HW2.out] at hvs; replace hS := hS.old hn'; replace hB := hB.trans (hn'.mono hB.size); clear hn' hjs)
          | (go_at_call 13; refine (same_true va wa _ _ _ (wB bs 0 a1) _ hvs hS rfl hc256).mono ?_; rintro e w' ⟨rfl, rfl⟩)
          | (go_at_call 11; refine (started_any _).mono ?_; rintro e wn ⟨rfl, hn'⟩; replace hB := hB.trans (hn'.mono hB.size); clear hn'))
        go_ret
        exact ⟨rfl, by assumption⟩
    · have hqF : (fE bs.length 0 ws == 0) = false := beq_eq_false_iff_ne.2 hF
      clear hF
      by_cases hW : wE bs.length 0 a1 = 0
      · have hqW : (wE bs.length 0 a1 == 0) = true := beq_iff_eq.2 hW
        obtain ⟨q1, q2⟩ := HW.out hW
        have HW1 : Hid _ := q1
        have HW2 : Hid _ := q2
        clear q1 q2 hW
        go_wp2_with (first
          | (go_at_call 10; refine (num_any _ _).mono ?_; rintro e w' ⟨rfl, rfl⟩)
          | (go_at_call 16; refine (uint_total ja _ jc xs.length a1 (xs ++ bs ++ ys) _ HL.out hjs h256 hjc hjm' (by omega)).mono ?_; rintro e wn ⟨rfl, hn'⟩; rw [HU1.out, HU2.out]; replace hjs := hjs.old hn'; replace hL := hL.old hn'; replace hS := hS.old hn'; replace hB := hB.trans (hn'.mono hB.size); clear hn')
          | (go_at_call 9; refine (fields_total ja a4 _ jc ws.length cap4 xs.length (xs ++ bs ++ ys) ws _ HL.out rfl hjs (hw.old hB) h256 hjc hjm' (by omega) (by omega)).mono ?_; rintro e wn ⟨mv, rfl, hmo, hn'⟩; rw [HF1.out, HF3.out]; rw [HF2.out] at hmo; obtain ⟨ma, mc, rfl, hms, _, _, _⟩ := owns_seg hmo; replace hjs := hjs.old hn'; replace hL := hL.old hn'; replace hS := hS.old hn'; replace hB := hB.trans (hn'.mono hB.size); clear hn' hmo)
          | (go_at_call 15; refine (sameInts_true fa ma fc mc _ (toI (fV bs 0 ws)) _ hL hms (toI_len _) (by omega)).mono ?_; rintro e wn ⟨rfl, hn'⟩; replace hjs := hjs.old hn'; replace hS := hS.old hn'; replace hB := hB.trans (hn'.mono hB.size); clear hn' hms hL)
          | (go_at_call 17; refine (window_total ja _ jc xs.length a1 (xs ++ bs ++ ys) _ HL.out hjs hjc hjm' (by omega) hn).mono ?_; rintro e wn ⟨va, rfl, hvs, hn'⟩; rw [HW1.out, HW2.out]; rw [HW2.out] at hvs; replace hS := hS.old hn'; replace hB := hB.trans (hn'.mono hB.size); clear hn' hjs)
          | (go_at_call 13; refine (same_true va wa _ _ _ (wB bs 0 a1) _ hvs hS rfl hc256).mono ?_; rintro e w' ⟨rfl, rfl⟩)
          | (go_at_call 11; refine (started_any _).mono ?_; rintro e wn ⟨rfl, hn'⟩; replace hB := hB.trans (hn'.mono hB.size); clear hn'))
        go_ret
        exact ⟨rfl, by assumption⟩
      · have hqW : (wE bs.length 0 a1 == 0) = false := beq_eq_false_iff_ne.2 hW
        clear hW
        go_wp2_with (first
          | (go_at_call 10; refine (num_any _ _).mono ?_; rintro e w' ⟨rfl, rfl⟩)
          | (go_at_call 16; refine (uint_total ja _ jc xs.length a1 (xs ++ bs ++ ys) _ HL.out hjs h256 hjc hjm' (by omega)).mono ?_; rintro e wn ⟨rfl, hn'⟩; rw [HU1.out, HU2.out]; replace hjs := hjs.old hn'; replace hL := hL.old hn'; replace hS := hS.old hn'; replace hB := hB.trans (hn'.mono hB.size); clear hn')
          | (go_at_call 9; refine (fields_total ja a4 _ jc ws.length cap4 xs.length (xs ++ bs ++ ys) ws _ HL.out rfl hjs (hw.old hB) h256 hjc hjm' (by omega) (by omega)).mono ?_; rintro e wn ⟨mv, rfl, hmo, hn'⟩; rw [HF1.out, HF3.out]; rw [HF2.out] at hmo; obtain ⟨ma, mc, rfl, hms, _, _, _⟩ := owns_seg hmo; replace hjs := hjs.old hn'; replace hL := hL.old hn'; replace hS := hS.old hn'; replace hB := hB.trans (hn'.mono hB.size); clear hn' hmo)
          | (go_at_call 15; refine (sameInts_true fa ma fc mc _ (toI (fV bs 0 ws)) _ hL hms (toI_len _) (by omega)).mono ?_; rintro e wn ⟨rfl, hn'⟩; replace hjs := hjs.old hn'; replace hS := hS.old hn'; replace hB := hB.trans (hn'.mono hB.size); clear hn' hms hL)
          | (go_at_call 17; refine (window_total ja _ jc xs.length a1 (xs ++ bs ++ ys) _ HL.out hjs hjc hjm' (by omega) hn).mono ?_; rintro e wn ⟨va, rfl, hvs, hn'⟩; rw [HW1.out, HW2.out]; rw [HW2.out] at hvs; replace hS := hS.old hn'; replace hB := hB.trans (hn'.mono hB.size); clear hn' hjs)
          | (go_at_call 13; refine (same_true va wa _ _ _ (wB bs 0 a1) _ hvs hS rfl hc256).mono ?_; rintro e w' ⟨rfl, rfl⟩)
          | (go_at_call 11; refine (started_any _).mono ?_; rintro e wn ⟨rfl, hn'⟩; replace hB := hB.trans (hn'.mono hB.size); clear hn'))
        go_ret
        exact ⟨rfl, by assumption⟩
  · have hqU : (uE bs.length 0 a1 == 0) = false := beq_eq_false_iff_ne.2 hU
    clear hU
    by_cases hF : fE bs.length 0 ws = 0
    · have hqF : (fE bs.length 0 ws == 0) = true := beq_iff_eq.2 hF
      obtain ⟨q1, q2, q3⟩ := HF.out hF
      have HF1 : Hid _ := q1
      have HF2 : Hid _ := q2
      have HF3 : Hid _ := q3
      clear q1 q2 q3 hF
      by_cases hW : wE bs.length 0 a1 = 0
      · have hqW : (wE bs.length 0 a1 == 0) = true := beq_iff_eq.2 hW
        obtain ⟨q1, q2⟩ := HW.out hW
        have HW1 : Hid _ := q1
        have HW2 : Hid _ := q2
        clear q1 q2 hW
        go_wp2_with (first
          | (go_at_call 10; refine (num_any _ _).mono ?_; rintro e w' ⟨rfl, rfl⟩)
          | (go_at_call 16; refine (uint_total ja _ jc xs.length a1 (xs ++ bs ++ ys) _ HL.out hjs h256 hjc hjm' (by omega)).mono ?_; rintro e wn ⟨rfl, hn'⟩; rw [HU1.out, HU2.out]; replace hjs := hjs.old hn'; replace hL := hL.old hn'; replace hS := hS.old hn'; replace hB := hB.trans (hn'.mono hB.size); clear hn')
          | (go_at_call 9; refine (fields_total ja a4 _ jc ws.length cap4 xs.length (xs ++ bs ++ ys) ws _ HL.out rfl hjs (hw.old hB) h256 hjc hjm' (by omega) (by omega)).mono ?_; rintro e wn ⟨mv, rfl, hmo, hn'⟩; rw [HF1.out, HF3.out]; rw [HF2.out] at hmo; obtain ⟨ma, mc, rfl, hms, _, _, _⟩ := owns_seg hmo; replace hjs := hjs.old hn'; replace hL := hL.old hn'; replace hS := hS.old hn'; replace hB := hB.trans (hn'.mono hB.size); clear hn' hmo)
          | (go_at_call 15; refine (sameInts_true fa ma fc mc _ (toI (fV bs 0 ws)) _ hL hms (toI_len _) (by omega)).mono ?_; rintro e wn ⟨rfl, hn'⟩; replace hjs := hjs.old hn'; replace hS := hS.old hn'; replace hB := hB.trans (hn'.mono hB.size); clear hn' hms hL)
          | (go_at_call 17; refine (window_total ja _ jc xs.length a1 (xs ++ bs ++ ys) _ HL.out hjs hjc hjm' (by omega) hn).mono ?_; rintro e wn ⟨va, rfl, hvs, hn'⟩; rw [HW1.out, HW2.out]; rw [HW2.out] at hvs; replace hS := hS.old hn'; replace hB := hB.trans (hn'.mono hB.size); clear hn' hjs)
          | (go_at_call 13; refine (same_true va wa _ _ _ (wB bs 0 a1) _ hvs hS rfl hc256).mono ?_; rintro e w' ⟨rfl, rfl⟩)
          | (go_at_call 11; refine (started_any _).mono ?_; rintro e wn ⟨rfl, hn'⟩; replace hB := hB.trans (hn'.mono hB.size); clear hn'))
        go_ret
        exact ⟨rfl, by assumption⟩
      · have hqW : (wE bs.length 0 a1 == 0) = false := beq_eq_false_iff_ne.2 hW
        clear hW
        go_wp2_with (first
          | (go_at_call 10; refine (num_any _ _).mono ?_; rintro e w' ⟨rfl, rfl⟩)
          | (go_at_call 16; refine (uint_total ja _ jc xs.length a1 (xs ++ bs ++ ys) _ HL.out hjs h256 hjc hjm' (by omega)).mono ?_; rintro e wn ⟨rfl, hn'⟩; rw [HU1.out, HU2.out]; replace hjs := hjs.old hn'; replace hL := hL.old hn'; replace hS := hS.old hn'; replace hB := hB.trans (hn'.mono hB.size); clear hn')
          | (go_at_call 9; refine (fields_total ja a4 _ jc ws.length cap4 xs.length (xs ++ bs ++ ys) ws _ HL.out rfl hjs (hw.old hB) h256 hjc hjm' (by omega) (by omega)).mono ?_; rintro e wn ⟨mv, rfl, hmo, hn'⟩; rw [HF1.out, HF3.out]; rw [HF2.out] at hmo; obtain ⟨ma, mc, rfl, hms, _, _, _⟩ := owns_seg hmo; replace hjs := hjs.old hn'; replace hL := hL.old hn'; replace hS := hS.old hn'; replace hB := hB.trans (hn'.mono hB.size); clear hn' hmo)
          | (go_at_call 15; refine (sameInts_true fa ma fc mc _ (toI (fV bs 0 ws)) _ hL hms (toI_len _) (by omega)).mono ?_; rintro e wn ⟨rfl, hn'⟩; replace hjs := hjs.old hn'; replace hS := hS.old hn'; replace hB := hB.trans (hn'.mono hB.size); clear hn' hms hL)
          | (go_at_call 17; refine (window_total ja _ jc xs.length a1 (xs ++ bs ++ ys) _ HL.out hjs hjc hjm' (by omega) hn).mono ?_; rintro e wn ⟨va, rfl, hvs, hn'⟩; rw [HW1.out, HW2.out]; rw [HW2.out] at hvs; replace hS := hS.old hn'; replace hB := hB.trans (hn'.mono hB.size); clear hn' hjs)
          | (go_at_call 13; refine (same_true va wa _ _ _ (wB bs 0 a1) _ hvs hS rfl hc256).mono ?_; rintro e w' ⟨rfl, rfl⟩)
          | (go_at_call 11; refine (started_any _).mono ?_; rintro e wn ⟨rfl, hn'⟩; replace hB := hB.trans (hn'.mono hB.size); clear hn'))
        go_ret
        exact ⟨rfl, by assumption⟩
    · have hqF : (fE bs.length 0 ws == 0) = false := beq_eq_false_iff_ne.2 hF
      clear hF
      by_cases hW : wE bs.length 0 a1 = 0
      · have hqW : (wE bs.length 0 a1 == 0) = true := beq_iff_eq.2 hW
        obtain ⟨q1, q2⟩ := HW.out hW
        have HW1 : Hid _ := q1
        have HW2 : Hid _ := q2
        clear q1 q2 hW
        go_wp2_with (first
          | (go_at_call 10; refine (num_any _ _).mono ?_; rintro e w' ⟨rfl, rfl⟩)
          | (go_at_call 16; refine (uint_total ja _ jc xs.length a1 (xs ++ bs ++ ys) _ HL.out hjs h256 hjc hjm' (by omega)).mono ?_; rintro e wn ⟨rfl, hn'⟩; rw [HU1.out, HU2.out]; replace hjs := hjs.old hn'; replace hL := hL.old hn'; replace hS := hS.old hn'; replace hB := hB.trans (hn'.mono hB.size); clear hn')
          | (go_at_call 9; refine (fields_total ja a4 _ jc ws.length cap4 xs.length (xs ++ bs ++ ys) ws _ HL.out rfl hjs (hw.old hB) h256 hjc hjm' (by omega) (by omega)).mono ?_; rintro e wn ⟨mv, rfl, hmo, hn'⟩; rw [HF1.out, HF3.out]; rw [HF2.out] at hmo; obtain ⟨ma, mc, rfl, hms, _, _, _⟩ := owns_seg hmo; replace hjs := hjs.old hn'; replace hL := hL.old hn'; replace hS := hS.old hn'; replace hB := hB.trans (hn'.mono hB.size); clear hn' hmo)
          | (go_at_call 15; refine (sameInts_true fa ma fc mc _ (toI (fV bs 0 ws)) _ hL hms (toI_len _) (by omega)).mono ?_; rintro e wn ⟨rfl, hn'⟩; replace hjs := hjs.old hn'; replace hS := hS.old hn'; replace hB := hB.trans (hn'.mono hB.size); clear hn' hms hL)
          | (go_at_call 17; refine (window_total ja _ jc xs.length a1 (xs ++ bs ++ ys) _ HL.out hjs hjc hjm' (by omega) hn).mono ?_; rintro e wn ⟨va, rfl, hvs, hn'⟩; rw [HW1.out, HW2.out]; rw [HW2.out] at hvs; replace hS := hS.old hn'; replace hB := hB.trans (hn'.mono hB.size); clear hn' hjs)
          | (go_at_call 13; refine (same_true va wa _ _ _ (wB bs 0 a1) _ hvs hS rfl hc256).mono ?_; rintro e w' ⟨rfl, rfl⟩)
          | (go_at_call 11; refine (started_any _).mono ?_; rintro e wn ⟨rfl, hn'⟩; replace hB := hB.trans (hn'.mono hB.size); clear hn'))
        go_ret
        exact ⟨rfl, by assumption⟩
      · have hqW : (wE bs.length 0 a1 == 0) = false := beq_eq_false_iff_ne.2 hW
        clear hW
        go_wp2_with (first
          | (go_at_call 10; refine (num_any _ _).mono ?_; rintro e w' ⟨rfl, rfl⟩)
          | (go_at_call 16; refine (uint_total ja _ jc xs.length a1 (xs ++ bs ++ ys) _ HL.out hjs h256 hjc hjm' (by omega)).mono ?_; rintro e wn ⟨rfl, hn'⟩; rw [HU1.out, HU2.out]; replace hjs := hjs.old hn'; replace hL := hL.old hn'; replace hS := hS.old hn'; replace hB := hB.trans (hn'.mono hB.size); clear hn')
          | (go_at_call 9; refine (fields_total ja a4 _ jc ws.length cap4 xs.length (xs ++ bs ++ ys) ws _ HL.out rfl hjs (hw.old hB) h256 hjc hjm' (by omega) (by omega)).mono ?_; rintro e wn ⟨mv, rfl, hmo, hn'⟩; rw [HF1.out, HF3.out]; rw [HF2.out] at hmo; obtain ⟨ma, mc, rfl, hms, _, _, _⟩ := owns_seg hmo; replace hjs := hjs.old hn'; replace hL := hL.old hn'; replace hS := hS.old hn'; replace hB := hB.trans (hn'.mono hB.size); clear hn' hmo)
          | (go_at_call 15; refine (sameInts_true fa ma fc mc _ (toI (fV bs 0 ws)) _ hL hms (toI_len _) (by omega)).mono ?_; rintro e wn ⟨rfl, hn'⟩; replace hjs := hjs.old hn'; replace hS := hS.old hn'; replace hB := hB.trans (hn'.mono hB.size); clear hn' hms hL)
          | (go_at_call 17; refine (window_total ja _ jc xs.length a1 (xs ++ bs ++ ys) _ HL.out hjs hjc hjm' (by omega) hn).mono ?_; rintro e wn ⟨va, rfl, hvs, hn'⟩; rw [HW1.out, HW2.out]; rw [HW2.out] at hvs; replace hS := hS.old hn'; replace hB := hB.trans (hn'.mono hB.size); clear hn' hjs)
          | (go_at_call 13; refine (same_true va wa _ _ _ (wB bs 0 a1) _ hvs hS rfl hc256).mono ?_; rintro e w' ⟨rfl, rfl⟩)
          | (go_at_call 11; refine (started_any _).mono ?_; rintro e wn ⟨rfl, hn'⟩; replace hB := hB.trans (hn'.mono hB.size); clear hn'))
        go_ret
        exact ⟨rfl, by assumption⟩
end Go.Proofs.Ytebpaolniemfgaa.viewBeside
