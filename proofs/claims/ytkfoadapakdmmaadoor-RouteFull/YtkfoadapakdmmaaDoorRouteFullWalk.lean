/-
  RouteFull: the walk.
-/
import Derived.Test.YtkfoadapakdmmaaDoorRtTs
namespace Go.Proofs.YtkfoadapakdmmaaDoor
open Go.RowKit Go.Maps

theorem and255 (n : Int) : bits .and .i64 n 255 = n % 256 := by
  have h127 : (BitVec.ofInt 64 255).toNat = 2 ^ 8 - 1 := by decide
  have key : (BitVec.ofInt 64 n &&& BitVec.ofInt 64 255).toNat = (n % ((2 ^ 64 : Nat) : Int)).toNat % 2 ^ 8 := by
    rw [BitVec.toNat_and, BitVec.toNat_ofInt, h127, Nat.and_two_pow_sub_one_eq_mod]
  show IntKind.i64.wrap ((BitVec.ofInt 64 n &&& BitVec.ofInt 64 255).toNat : Nat) = n % 256
  rw [key, IntKind.wrap_i64]
  omega
def R0 : List RV := (List.range 256).map fuR
def Rd (k : Nat) : List RV := del R0 (fuR k).p
def R1 (k : Nat) : List RV := Rd k ++ [fuR 256]
theorem R0_len : R0.length = 256 := by simp [R0]
theorem R0_24 : ∀ r ∈ R0, r.p.n = 24 := by
  intro r hr
  obtain ⟨i, _, rfl⟩ := List.mem_map.1 hr
  rfl
theorem R1_24 (k : Nat) : ∀ r ∈ R1 k, r.p.n = 24 := by
  intro r hr
  rcases List.mem_append.1 hr with h | h
  · exact R0_24 r (List.mem_filter.1 h).1
  · rw [List.mem_singleton.1 h]; rfl
theorem fnd_R0 (k : Nat) : fnd R0 (fuR k).p = if k < 256 then some (fuR k) else none := fnd_fu 256 k
theorem R0_apart : R0.Pairwise (fun a b => eqP a.p b.p = false) := by
  unfold R0
  rw [List.pairwise_map]
  refine List.Pairwise.imp ?_ (List.pairwise_lt_range (n := 256))
  intro a b h
  rw [fu_eq]
  simp
  omega
theorem Rd_len (k : Nat) (h : k < 256) : (Rd k).length = 255 := by
  have e := len_del R0 (fuR k).p R0_apart
  rw [fnd_R0, if_pos h, R0_len] at e
  simp at e
  exact e
theorem R1_len (k : Nat) (h : k < 256) : (R1 k).length = 256 := by simp [R1, Rd_len k h]
theorem fnd_Rd (k j : Nat) : fnd (Rd k) (fuR j).p = if k = j then none else if j < 256 then some (fuR j) else none := by
  unfold Rd
  rw [fnd_del, fu_eq, fnd_R0]
  simp
theorem fnd_R1 (k j : Nat) (h : k < 256) : fnd (R1 k) (fuR j).p = if j = 256 then some (fuR 256) else fnd (Rd k) (fuR j).p := by
  unfold R1
  rw [fnd_snoc, fu_eq]
  by_cases e : j = 256
  · subst e
    rw [fnd_Rd, if_neg (by omega), if_neg (by omega)]
    simp
  · rw [if_neg e, show decide (256 = j) = false from by simp; omega]
    simp
theorem addE_no {R : List RV} (i : Nat) (h : i < 257) (hf : (fnd R (fuR i).p).isSome = false) (hl : 256 ≤ R.length) : addE R (fuR i) = 144 := by
  unfold addE
  rw [if_pos (fu_chk i h), hf, if_neg (by decide), if_pos hl]
theorem addE_has {R : List RV} (i : Nat) (h : i < 257) (hf : (fnd R (fuR i).p).isSome = true) : addE R (fuR i) = 143 := by
  unfold addE
  rw [if_pos (fu_chk i h), hf, if_pos rfl]
theorem addE_room {R : List RV} (i : Nat) (h : i < 257) (hf : (fnd R (fuR i).p).isSome = false) (hl : ¬ 256 ≤ R.length) : addE R (fuR i) = 0 := by
  unfold addE
  rw [if_pos (fu_chk i h), hf, if_neg (by decide), if_neg hl]
theorem add_a : addE R0 (fuR 256) = 144 := addE_no 256 (by omega) (by rw [fnd_R0]; rfl) (by rw [R0_len]; exact Nat.le_refl _)
theorem add_b (k : Nat) (h : k < 256) : addE R0 (fuR k) = 143 := addE_has k (by omega) (by rw [fnd_R0, if_pos h]; rfl)
theorem add_c (k : Nat) (h : k < 256) : addE (Rd k) (fuR 256) = 0 := addE_room 256 (by omega) (by rw [fnd_Rd, if_neg (show ¬ k = 256 by omega)]; rfl) (by rw [Rd_len k h]; omega)
theorem add_d (k : Nat) (h : k < 256) : addE (R1 k) (fuR k) = 144 := addE_no k (by omega) (by rw [fnd_R1 k k h, if_neg (show ¬ k = 256 by omega), fnd_Rd, if_pos rfl]; rfl) (by rw [R1_len k h]; exact Nat.le_refl _)
theorem add_e (k : Nat) (h : k < 256) : addE (R1 k) (fuR 256) = 143 := addE_has 256 (by omega) (by rw [fnd_R1 k 256 h, if_pos rfl]; rfl)
theorem addR_not {R : List RV} {r : RV} (h : addE R r ≠ 0) : addR R r = R := by unfold addR; rw [if_neg h]
theorem addR_did {R : List RV} {r : RV} (h : addE R r = 0) : addR R r = R ++ [r] := by unfold addR; rw [if_pos h]
theorem fu_y (i : Nat) : ∀ j, j < 16 → (fuR i).y j < 256 := fun j _ => by show (0 : Nat) < 256; omega
theorem TS.adds {w : World} {t M : Nat} {R : List RV} {A : World} (h : TS w t M R A) (i : Nat) (hi : i ≤ 256) (hl : R.length ≤ 256) (R' : List RV) (n : Int) (he : (addE R (fuR i) : Int) = n) (hR : addR R (fuR i) = R') : Calls Tryd.prog 10 #[.pointer (some ⟨t, 0, none⟩), .agg (rtC (fuR i))] A fun e A' => e = .returned (.int .i64 n) ∧ TS w t M R' A' := by
  refine (h.add (fuR i) (fu_wf i hi) (fu_y i) (by omega)).mono ?_
  rintro e A' ⟨rfl, h1, _⟩
  subst hR he
  exact ⟨rfl, h1⟩
theorem TS.lens {w : World} {t M : Nat} {R : List RV} {A : World} (h : TS w t M R A) (n : Int) (hn : (R.length : Int) = n) : Calls Tryd.prog 12 #[.pointer (some ⟨t, 0, none⟩)] A fun e A' => e = .returned (.int .i64 n) ∧ A = A' := by
  subst hn
  exact h.len
theorem rte_range0 {A : World} {O : Nat} {r : RV} (h : RteAt A O r) : A.rangeAt O 0 (rtC r).toList := by
  have e := RteAt.range h 0 (rtC r).size
  rwa [Nat.zero_add, Array.extract_size] at e
theorem TS.below' {w : World} {t M : Nat} {R : List RV} {A A' : World} (h : TS w t M R A) (b : Below A.heap.size A A') : TS w t M R A' := h.below b

set_option maxHeartbeats 4000000 in
set_option maxRecDepth 100000 in
theorem routeFull.walk (w : World) (hs : Spe8 w) (a : Int) : Calls Tryd.prog 3 #[.int .i64 a] w fun e w' => e = .returned (.bool true) ∧ Below w.heap.size w w' := by
  have QN : Hid _ := TS.new w w (Below.refl _ _) hs
  obtain ⟨k, hk⟩ : ∃ k, k = (a % 256).toNat := ⟨_, rfl⟩
  have ha := and255 a
  have ha2 : bits .and .i64 a 255 = (k : Int) := by rw [ha]; omega
  have hk2 : k < 256 := by omega
  have HK : Hid (k < 256) := hk2
  clear ha hk hs
  obtain ⟨rk, hrk⟩ : ∃ rk, rk = fuR k := ⟨_, rfl⟩
  obtain ⟨r6, hr6⟩ : ∃ r6, r6 = fuR 256 := ⟨_, rfl⟩
  have QK : Hid (∀ x, Calls Tryd.prog 11 #[.int .i64 (k : Int)] x fun e w' => e = .returned (.agg (rtC rk)) ∧ Below x.heap.size x w') := fun x => by rw [hrk]; exact full_any k (by omega) x
  have Q6 : Hid (∀ x, Calls Tryd.prog 11 #[.int .i64 256] x fun e w' => e = .returned (.agg (rtC r6)) ∧ Below x.heap.size x w') := fun x => by rw [hr6]; exact full_any 256 (by omega) x
  have HRK : Hid (rk = fuR k ∧ r6 = fuR 256) := ⟨hrk, hr6⟩
  clear hrk hr6
  go_enter Tryd.func3, Tryd.ntmps3
  go_wp2_with fail
  refine Calls.mono QN.out ?_
  rintro e w1 ⟨t, M, rfl, hT, _, _⟩
  have HT : Hid (TS w t M [] w1) := hT
  clear hT QN
  go_wp2_with fail
  go_loopw [4] (fun ix wr => ∃ i : Nat, ix = .int .i64 i ∧ i ≤ 256 ∧ Hid (TS w t M ((List.range i).map fuR) wr)) (fun ix _ => 256 - (intOf ix).toNat)
  case atStart => exact ⟨0, rfl, by omega, HT⟩
  case round =>
    obtain ⟨i, rfl, hi, ST⟩ := hrel
    clear HT
    by_cases hlt : i < 256
    · have hlt2 : (i : Int) < 256 := by omega
      have wi : IntKind.i64.wrap ((i : Int) + 1) = ((i + 1 : Nat) : Int) := by rw [IntKind.wrap_i64]; omega
      have QI : Hid (∀ x, Calls Tryd.prog 11 #[.int .i64 (i : Int)] x fun e w' => e = .returned (.agg (rtC (fuR i))) ∧ Below x.heap.size x w') := fun x => full_any i (by omega) x
      obtain ⟨ri, hri⟩ : ∃ ri, ri = fuR i := ⟨_, rfl⟩
      rw [← hri] at QI
      have HRI : Hid (ri = fuR i) := hri
      clear hri
      have HI : Hid (i < 256) := hlt
      go_wp2_with fail
      refine Calls.mono (QI.out _) ?_
      rintro e x1 ⟨rfl, b1⟩
      have S1 : Hid _ := ST.out.below b1
      clear QI b1 ST
      go_wp2_with fail
      rw [HRI.out]
      refine Calls.mono (S1.out.adds i (by omega) (by simp; omega) ((List.range (i + 1)).map fuR) 0 (by rw [(add_fu i HI.out).1]; rfl) (add_fu i HI.out).2) ?_
      rintro e x2 ⟨rfl, s2⟩
      have S2 : Hid _ := s2
      clear s2 S1
      go_wp2_with fail
      refine Calls.mono (S2.out.lens ((i + 1 : Nat) : Int) (by simp)) ?_
      rintro e x3 ⟨rfl, rfl⟩
      go_wp2_with fail
      go_roundw
      case rel => exact ⟨i + 1, by first | rfl | go_num, by omega, S2⟩
      case measure => simp [intOf]; omega
    · have hni : ¬ ((i : Int) < 256) := by omega
      have hi6 : i = 256 := by omega
      subst hi6
      have S0 : Hid (TS w t M R0 wr) := ST.out
      clear ST hlt hi
      -- TAIL
      go_wp2_with fail
      refine Calls.mono (Q6.out _) ?_
      rintro e y1 ⟨rfl, b1⟩
      have S1 : Hid _ := S0.out.below' b1
      clear S0
      clear b1
      go_wp2_with fail
      rw [HRK.out.2]
      refine Calls.mono (S1.out.adds 256 (by omega) (by rw [R0_len]; omega) R0 144 (by rw [add_a]; rfl) (addR_not (by rw [add_a]; omega))) ?_
      rintro e y2 ⟨rfl, s2⟩
      have S2 : Hid _ := s2
      clear S1 s2
      go_wp2_with fail
      refine Calls.mono (QK.out _) ?_
      rintro e y3 ⟨rfl, b3⟩
      have S3 : Hid _ := S2.out.below' b3
      clear S2
      clear b3
      go_wp2_with fail
      rw [HRK.out.1]
      refine Calls.mono (S3.out.adds k (by omega) (by rw [R0_len]; omega) R0 143 (by rw [add_b k HK.out]; rfl) (addR_not (by rw [add_b k HK.out]; omega))) ?_
      rintro e y4 ⟨rfl, s4⟩
      have S4 : Hid _ := s4
      clear S3 s4
      go_wp2_with fail
      refine Calls.mono (S4.out.lens 256 (by rw [R0_len]; rfl)) ?_
      rintro e y5 ⟨rfl, rfl⟩
      have S5 := S4
      clear S4
      go_wp2_with fail
      refine Calls.mono (QK.out _) ?_
      rintro e y6 ⟨rfl, b6⟩
      have S6 : Hid _ := S5.out.below' b6
      clear S5
      clear b6
      go_wp2_with (first | (refine wpList_field_pf (.tmp 49) rfl rk rfl rfl ?_))
      rw [HRK.out.1]
      refine Calls.mono (S6.out.drop (fuR k).p (fu_wf k (by omega))) ?_
      rw [show (fnd R0 (fuR k).p).isSome = true from by rw [fnd_R0, if_pos HK.out]; rfl]
      rintro e y7 ⟨rfl, s7, _⟩
      have S7 : Hid (TS w t M (Rd k) y7) := s7
      clear S6 s7
      go_wp2_with fail
      refine Calls.mono (S7.out.lens 255 (by rw [Rd_len k HK.out]; rfl)) ?_
      rintro e y8 ⟨rfl, rfl⟩
      have S8 := S7
      clear S7
      go_wp2_with fail
      refine Calls.mono (Q6.out _) ?_
      rintro e y9 ⟨rfl, b9⟩
      have S9 : Hid _ := S8.out.below' b9
      clear S8
      clear b9
      go_wp2_with fail
      rw [HRK.out.2]
      refine Calls.mono (S9.out.adds 256 (by omega) (by rw [Rd_len k HK.out]; omega) (R1 k) 0 (by rw [add_c k HK.out]; rfl) (addR_did (add_c k HK.out))) ?_
      rintro e y10 ⟨rfl, s10⟩
      have S10 : Hid _ := s10
      clear S9 s10
      go_wp2_with fail
      refine Calls.mono (QK.out _) ?_
      rintro e y11 ⟨rfl, b11⟩
      have S11 : Hid _ := S10.out.below' b11
      clear S10
      clear b11
      go_wp2_with fail
      rw [HRK.out.1]
      refine Calls.mono (S11.out.adds k (by omega) (by rw [R1_len k HK.out]; omega) (R1 k) 144 (by rw [add_d k HK.out]; rfl) (addR_not (by rw [add_d k HK.out]; omega))) ?_
      rintro e y12 ⟨rfl, s12⟩
      have S12 : Hid _ := s12
      clear S11 s12
      go_wp2_with fail
      refine Calls.mono (Q6.out _) ?_
      rintro e y13 ⟨rfl, b13⟩
      have S13 : Hid _ := S12.out.below' b13
      clear S12
      clear b13
      go_wp2_with fail
      rw [HRK.out.2]
      refine Calls.mono (S13.out.adds 256 (by omega) (by rw [R1_len k HK.out]; omega) (R1 k) 143 (by rw [add_e k HK.out]; rfl) (addR_not (by rw [add_e k HK.out]; omega))) ?_
      rintro e y14 ⟨rfl, s14⟩
      have S14 : Hid _ := s14
      clear S13 s14
      go_wp2_with fail
      refine Calls.mono (Q6.out _) ?_
      rintro e y15 ⟨rfl, b15⟩
      have S15 : Hid _ := S14.out.below' b15
      clear S14
      clear b15
      go_wp2_with (first | (refine wpList_field_pf (.tmp 78) rfl r6 rfl rfl ?_) | (refine wpList_field_ip (.tmp 79) rfl r6.p rfl rfl ?_))
      rw [show ipCells r6.p.V r6.p.x = ipCells 4 (fuX 256) from by rw [HRK.out.2]; rfl]
      refine Calls.mono (S15.out.find 4 (fuX 256) (by decide) (fu_wf 256 (by omega)).x) ?_
      rw [show fIP (R1 k) 4 (fuX 256) = some (fuR 256) from by rw [fIP_fu (R1 k) (R1_24 k) 256 (by omega), fnd_R1 k 256 HK.out]; rfl]
      rintro e y16 ⟨rfl, b16⟩
      have S16 : Hid _ := S15.out.below' b16
      clear S15
      clear b16
      simp only [Option.getD_some, Option.isSome_some]
      go_wp2_with (first | (refine wpList_alloc_rte rfl rfl ?_) | (refine wpList_store_rte (.tmp 5) (.tmp 82) rfl rfl y16.heap.size rz (fuR 256) rfl rfl (rte_new y16 rz) rfl ?_))
      intro y17 hR17 k17
      have bz17 : Below y16.heap.size y16 (y16.alloc (.cells (rtC rz) 32)) := (Below.refl _ _).alloc (Nat.le_refl _) _
      have b17 : Below y16.heap.size y16 y17 := bz17.trans (k17.below (fun q e => by have e' : q = y16.heap.size := e; omega) bz17.size)
      have S17 : Hid _ := S16.out.below' b17
      clear S16
      have HB17 : Hid (RteAt y17 y16.heap.size (fuR 256)) := hR17
      obtain ⟨O5, hO5⟩ : ∃ O5, O5 = y16.heap.size := ⟨_, rfl⟩
      rw [← hO5] at HB17 ⊢
      clear hO5
      clear b17 bz17 k17 hR17
      go_wp2_with fail
      refine Calls.mono (QK.out _) ?_
      rintro e y18 ⟨rfl, b18⟩
      have S18 : Hid _ := S17.out.below' b18
      clear S17
      have HB18 : Hid (RteAt y18 O5 (fuR 256)) := RteAt.below HB17.out b18
      clear HB17
      clear b18
      go_wp2_with (first | (refine wpList_field_pf (.tmp 87) rfl rk rfl rfl ?_) | (refine wpList_field_ip (.tmp 88) rfl rk.p rfl rfl ?_))
      rw [show ipCells rk.p.V rk.p.x = ipCells 4 (fuX k) from by rw [HRK.out.1]; rfl]
      refine Calls.mono (S18.out.find 4 (fuX k) (by decide) (fu_wf k (by omega)).x) ?_
      rw [show fIP (R1 k) 4 (fuX k) = none from by rw [fIP_fu (R1 k) (R1_24 k) k (by omega), fnd_R1 k k HK.out]; rw [if_neg (show ¬ k = 256 by have := HK.out; omega), fnd_Rd, if_pos rfl]]
      rintro e y19 ⟨rfl, b19⟩
      have S19 : Hid _ := S18.out.below' b19
      clear S18
      have HB19 : Hid (RteAt y19 O5 (fuR 256)) := RteAt.below HB18.out b19
      clear HB18
      clear b19
      simp only [Option.getD_none, Option.isSome_none]
      go_wp2_with (first | (refine wpList_alloc_rte rfl rfl ?_) | (refine wpList_store_rte (.tmp 7) (.tmp 91) rfl rfl y19.heap.size rz rz rfl rfl (rte_new y19 rz) rfl ?_))
      intro y20 hR20 k20
      have bz20 : Below y19.heap.size y19 (y19.alloc (.cells (rtC rz) 32)) := (Below.refl _ _).alloc (Nat.le_refl _) _
      have b20 : Below y19.heap.size y19 y20 := bz20.trans (k20.below (fun q e => by have e' : q = y19.heap.size := e; omega) bz20.size)
      have S20 : Hid _ := S19.out.below' b20
      clear S19
      have HB20 : Hid (RteAt y20 O5 (fuR 256)) := RteAt.below HB19.out b20
      clear HB19
      clear b20 bz20 k20 hR20
      go_wp2_with fail
      refine MixH.start (fun A => TS w t M (R1 k) A ∧ RteAt A O5 (fuR 256)) (by kernel_rfl) ?_
      obtain ⟨wA, hwA⟩ : ∃ wA, wA = y20.drew := ⟨_, rfl⟩
      have bdr : Below y20.heap.size y20 wA := by rw [hwA]; exact (Below.refl _ _).drew
      have hS : TS w t M (R1 k) wA ∧ RteAt wA O5 (fuR 256) := ⟨S20.out.below bdr, RteAt.below HB20.out bdr⟩
      rw [← hwA]
      clear hwA bdr S20 HB20
      refine MixH.takes [true, true] 14 (by kernel_rfl) (by kernel_rfl) (by decide) (by kernel_rfl) hS (fun K hK => ?_)
      simp only [Mix.pick]
      repeat (go_big_quiet_step (fail))
      refine wpQuiet_nil (hK _ ?_)
      clear hK K
      refine MixH.take 13 2 _ (.agg (rtC (fuR 256))) rfl (by kernel_rfl) (by kernel_rfl) (by kernel_rfl) (by kernel_rfl) (yields_rte (.tmp 5) rfl O5 0 (fuR 256) rfl rfl (fun A hA => rte_range0 hA.2)) hS (fun a' ha => ?_)
      simp only [Act.put, List.setIfInBounds_toArray, List.set_cons_succ, List.set_cons_zero] at ha
      subst ha
      refine MixH.one [false, false, false, true] 12 3 _ rfl rfl (by kernel_rfl) (by kernel_rfl) (fun K hK => ?_)
      simp only [Mix.pick]
      go_wp2_with fail
      refine Calls.mono (Q6.out wA) ?_
      rintro e wB ⟨rfl, bB⟩
      replace hS : TS w t M (R1 k) wB ∧ RteAt wB O5 (fuR 256) := ⟨hS.1.below bB, RteAt.below hS.2 bB⟩
      clear bB
      rw [HRK.out.2]
      go_wp2_with fail
      refine ⟨rfl, hK _ _ hS ?_⟩
      clear hK K
      refine MixH.one [false, false, false, false, true] 11 4 _ rfl rfl (by kernel_rfl) (by kernel_rfl) (fun K hK => ?_)
      simp only [Mix.pick]
      refine wpList_eql_rt (.tmp 95) (.tmp 96) rfl (fuR 256) (fuR 256) rfl rfl true (eqR_refl _) rfl ?_
      go_wp2_with fail
      refine ⟨rfl, hK _ _ hS ?_⟩
      clear hK K
      refine MixH.takes [false, false, false, false, false, true, true, true, true, true, true, true] 4 (by kernel_rfl) (by kernel_rfl) (by decide) (by kernel_rfl) hS (fun K hK => ?_)
      simp only [Mix.pick]
      repeat (go_big_quiet_step (fail))
      refine wpQuiet_nil (hK _ ?_)
      clear hK K
      refine MixH.one [false, false, false, false, false, false, false, false, false, false, false, false, true] 3 12 _ rfl rfl (by kernel_rfl) (by kernel_rfl) (fun K hK => ?_)
      simp only [Mix.pick]
      go_wp2_with fail
      refine Calls.mono (hS.1.lens 256 (by rw [R1_len k HK.out]; rfl)) ?_
      rintro e wC ⟨rfl, rfl⟩
      go_wp2_with fail
      refine ⟨rfl, hK _ _ hS ?_⟩
      clear hK K
      refine MixH.takes [false, false, false, false, false, false, false, false, false, false, false, false, false, true, true, true] 0 (by kernel_rfl) (by kernel_rfl) (by decide) (by kernel_rfl) hS (fun K hK => ?_)
      simp only [Mix.pick]
      repeat (go_big_quiet_step (fail))
      refine wpQuiet_nil (hK _ ?_)
      clear hK K
      refine MixH.done (by kernel_rfl) ?_
      have HE : Hid (Below w.heap.size w wB) := hS.1.bel
      clear hS
      go_wp2_with fail
      go_ret
      exact ⟨rfl, HE.out⟩
end Go.Proofs.YtkfoadapakdmmaaDoor
