/-
  The port: Refill.
-/
import Derived.Test.YtaicmpkgcppplaaPort10
namespace Go.Proofs.Ytaicmpkgcppplaa
open Go.RowKit

/-- the port behind a Refill of k buffers -/
def PS.refilled (s : PS) (k : Nat) : PS := { s with fr := s.fr.drop k, rx := s.rx ++ s.fr.take k, pl := fun j => if j ∈ s.fr.take k then 2 else s.pl j }
theorem PS.refilled_zero (s : PS) : s.refilled 0 = s := by simp [PS.refilled]
theorem PS.refilled_succ (s : PS) (k : Nat) (hk : k < s.fr.length) : { s.refilled k with fr := s.fr.drop (k + 1), pl := updF (s.refilled k).pl s.fr[k] 2, rx := (s.refilled k).rx ++ [s.fr[k]] } = s.refilled (k + 1) := by
  have e : s.fr.take (k + 1) = s.fr.take k ++ [s.fr[k]] := by rw [List.take_add_one, List.getElem?_eq_getElem hk]; rfl
  unfold PS.refilled
  rw [e]
  simp only [List.append_assoc, PS.mk.injEq, true_and, and_true]
  funext j
  unfold updF
  simp only [List.mem_append, List.mem_singleton]
  by_cases h1 : j = s.fr[k]
  · rw [if_pos h1, if_pos (.inr h1)]
  · rw [if_neg h1]
    simp [h1]
set_option maxRecDepth 100000 in
set_option maxHeartbeats 1600000 in
theorem Refill_any (w : World) (P gb gf gr gt : Nat) (s : PS) (h : PortAt w P gb gf gr gt s) (n : Int) (hfr : ∀ x ∈ s.fr, x < s.pool) :
    Calls Try.prog 10 #[.pointer (some ⟨P, 0, none⟩), .int .i64 n] w fun e w' => ∃ k : Nat, k = min n.toNat (min s.fr.length (s.rxn - s.rx.length)) ∧ e = .returned (.int .i64 (k : Int)) ∧
      PortAt w' P gb gf gr gt (s.refilled k) ∧ Ch (fun q => q = P ∨ q = gb ∨ q = gr) w w' := by
  obtain ⟨m, hm⟩ : ∃ m, m = min n.toNat (min s.fr.length (s.rxn - s.rx.length)) := ⟨_, rfl⟩
  have hrx : s.rx.length ≤ s.rxn := by obtain ⟨_, _, l⟩ := h.lr; exact l.ql
  have hfl : s.fr.length ≤ s.pool := by obtain ⟨_, _, l⟩ := h.lf; exact l.ql
  have hp2 := h.p2
  have hmn : m ≤ n.toNat := by omega
  have hmf : m ≤ s.fr.length := by omega
  have hmr : m ≤ s.rxn - s.rx.length := by omega
  have hend : m = n.toNat ∨ m = s.fr.length ∨ m + s.rx.length = s.rxn := by omega
  have hm2 : m ≤ 8192 := by omega
  have HM : Hid _ := hm
  have HEND : Hid _ := hend
  have HRX : Hid _ := hrx
  have HFRX : Hid _ := hfr
  clear hm hend hrx hfr
  go_enter Try.func10, Try.ntmps10
  go_wp2
  go_loopw [5] (fun pv wr => ∃ k : Nat, k ≤ m ∧ pv = .int .i64 k ∧ Hid (PortAt wr P gb gf gr gt (s.refilled k)) ∧ Hid (Ch (fun q => q = P ∨ q = gb ∨ q = gr) w wr)) (fun pv _ => m - (intOf pv).toNat)
  case atStart => exact ⟨0, Nat.zero_le _, rfl, by rw [PS.refilled_zero]; exact h, Ch.refl _ _⟩
  case round =>
    clear h
    obtain ⟨k, hk, rfl, HR, HK⟩ := hrel
    obtain ⟨f1, S1, l1⟩ := HR.out.lf
    obtain ⟨f2, S2, l2⟩ := HR.out.lr
    have hc := l1.c2
    have hcl : (s.refilled k).fr.length = s.fr.length - k := by simp [PS.refilled]
    have hrl : (s.refilled k).rx.length = s.rx.length + k := by simp [PS.refilled]; omega
    rw [hcl] at hc
    obtain ⟨r, hr⟩ : ∃ r, r = s.fr.length - k := ⟨_, rfl⟩
    rw [← hr] at hc
    have HF : Hid _ := full_line wr P 5 gr s.rxn _ f2 S2 l2
    rw [hrl] at HF
    by_cases hlt : k < m
    · have hkf : k < s.fr.length := by omega
      have d1 : decide ((k : Int) < n) = true := decide_eq_true (by omega)
      have d2 : decide ((0 : Int) < (r : Int)) = true := decide_eq_true (by omega)
      have r0 : 0 < r := by omega
      have hkn : (k : Int) < n := by omega
      rw [show (((s.rx.length + k : Nat) : Int) == (s.rxn : Int)) = false from beq_eq_false_iff_ne.2 (by have := HRX.out; omega)] at HF
      clear hr hcl hrl l1 l2
      go_wp2_with fail
      refine Calls.mono HF.out ?_
      rintro e w1 ⟨rfl, hb1⟩
      have h1 := HR.out.below hb1
      obtain ⟨f3, S3, l3⟩ := h1.lf
      have hdr : (s.refilled k).fr = s.fr[k] :: s.fr.drop (k + 1) := List.drop_eq_getElem_cons hkf
      rw [hdr] at l3
      obtain ⟨i, hi⟩ : ∃ i, i = s.fr[k] := ⟨_, rfl⟩
      have hip : i < s.pool := by rw [hi]; exact HFRX.out _ (List.getElem_mem hkf)
      rw [← hi] at l3
      have HL : Hid _ := leave_line w1 P 2 gf s.pool i _ f3 S3 l3
      have H1 : Hid _ := h1
      have HB1 : Hid _ := hb1
      have HI : Hid (i = s.fr[k]) := hi
      clear h1 hb1 l3 hdr HF hi
      go_wp2_with fail
      refine Calls.mono HL.out ?_
      rintro e w2 ⟨rfl, l4, k4, ho4⟩
      have h2 := H1.out.freeSet (k4.mono (fun _ _ e => .inl e)) l4 ho4
      have hB2 := h2.cB
      have c2 := h2.b0 i hip
      have z2 := h2.bz (i * 3)
      have h3 : PortAt (w2.setCell ⟨gb, i * 3, none⟩ (.int .i64 2)) P gb gf gr gt { s.refilled k with fr := s.fr.drop (k + 1), pl := updF (s.refilled k).pl i 2 } := h2.setPl i 2 hip
      simp only at hB2 c2
      have hB2' : w2.cell? ⟨P, 0, none⟩ = some (.slice (some ⟨gb, 0, none⟩) s.pool s.pool) := hB2
      obtain ⟨f5, S5, l5⟩ := h3.lr
      have HJ : Hid _ := join_line _ P 5 gr s.rxn i _ f5 S5 l5 (by
        have e : ({ s.refilled k with fr := s.fr.drop (k + 1), pl := updF (s.refilled k).pl i 2 } : PS).rx.length = s.rx.length + k := by simp [PS.refilled]; omega
        rw [e]; have := HRX.out; omega)
      have H3 : Hid _ := h3
      have K3 : Hid (Ch (fun q => q = P ∨ q = gb ∨ q = gr) w (w2.setCell ⟨gb, i * 3, none⟩ (.int .i64 2))) := ((HK.out.trans (Ch.ofBelow (S := fun _ => False) HB1.out) (fun _ _ e => e.elim)).trans k4 (fun _ _ e => .inl e)).set _ _ (.inr (.inl rfl))
      clear h2 h3 l4 k4 ho4 HL H1 HB1 l5 hB2
      go_wp2_with fail
      refine Calls.mono HJ.out ?_
      rintro e w5 ⟨rfl, ⟨S6, l6⟩, k6, ho6⟩
      have h6 := H3.out.rxSet k6 l6 ho6
      have H6 : Hid (PortAt w5 P gb gf gr gt (s.refilled (k + 1))) := by
        show PortAt _ _ _ _ _ _ _
        rw [← PS.refilled_succ s k hkf]
        have e := HI.out
        subst e
        exact h6
      have K6 : Hid (Ch (fun q => q = P ∨ q = gb ∨ q = gr) w w5) := K3.out.trans k6 (fun _ _ e => e.elim .inl (fun e => .inr (.inr e)))
      have wq : IntKind.i64.wrap ((k : Int) + 1) = (k : Int) + 1 := i64_small _ (by omega) (by omega)
      clear h6 l6 k6 ho6 HJ H3 K3
      go_wp2
      go_roundw
      case rel => exact ⟨k + 1, by omega, by go_num, H6, K6⟩
      case measure => simp [intOf]; omega
    · obtain rfl : k = m := by omega
      have HL : Hid _ := l1
      clear l1 l2
      by_cases g1 : n ≤ (k : Int)
      · have d1 : decide ((k : Int) < n) = false := decide_eq_false (by omega)
        clear hr hcl hrl HF
        go_wp2
        go_ret
        exact ⟨k, HM.out, rfl, HR.out, HK.out⟩
      · have d1 : decide ((k : Int) < n) = true := decide_eq_true (by omega)
        have g1' : (k : Int) < n := by omega
        by_cases g2 : k = s.fr.length
        · have r0 : r = 0 := by omega
          subst r0
          clear hr hcl hrl HF g2
          go_wp2
          go_ret
          first
            | exact ⟨k, HM.out, rfl, HR.out, HK.out⟩
            | (have e := HM.out; rw [← e]; exact ⟨rfl, HR.out, HK.out⟩)
        · have r0 : 0 < r := by omega
          have hfull : k + s.rx.length = s.rxn := by
            rcases HEND.out with e | e | e
            · omega
            · omega
            · exact e
          rw [show (((s.rx.length + k : Nat) : Int) == (s.rxn : Int)) = true from by rw [beq_iff_eq]; omega] at HF
          clear hr hcl hrl g2 hfull
          go_wp2_with fail
          refine Calls.mono HF.out ?_
          rintro e w1 ⟨rfl, hb1⟩
          have H1 : Hid _ := HR.out.below hb1
          have K1 : Hid (Ch (fun q => q = P ∨ q = gb ∨ q = gr) w w1) := HK.out.trans (Ch.ofBelow (S := fun _ => False) hb1) (fun _ _ e => e.elim)
          clear hb1 HF
          go_wp2
          go_ret
          exact ⟨k, HM.out, rfl, H1.out, K1.out⟩
end Go.Proofs.Ytaicmpkgcppplaa
