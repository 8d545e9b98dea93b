/-
  Layer 18: class, Push, Tick, Len, Bytes.
-/
import Derived.Test.YtclkcpdghpaboaaQFA
namespace Go.Proofs.Ytclkcpdghpaboaa
open Go.RowKit

theorem szL_nn {L : List (Int × Int)} (h : ∀ x ∈ L, 1 ≤ x.2 ∧ x.2 ≤ 65535) : 0 ≤ szL L := by
  induction L with
  | nil => exact Int.le_refl _
  | cons y L ih => have h1 := h y List.mem_cons_self; have h2 := ih (fun z hz => h z (List.mem_cons_of_mem _ hz)); simp only [szL]; omega
def lenQ (cs : List CL) (i : Int) : Int := if 0 ≤ i ∧ i ≤ (cs.length : Int) - 1 then ((cAt cs i.toNat).L.length : Int) else 0
def bytQ (cs : List CL) (i : Int) : Int := if 0 ≤ i ∧ i ≤ (cs.length : Int) - 1 then szL (cAt cs i.toNat).L else 0
section
variable (P G : Nat) (ms : List CM) (t : TN) (w : World) (h : QQ w P G ms t)
include h
set_option maxHeartbeats 1600000 in
set_option maxRecDepth 100000 in
theorem class_yes (i : Nat) (hi : i < ms.length) : Calls Try.prog 42 #[.pointer (some ⟨P, 0, none⟩), .int .i64 (i : Int)] w fun e w' => e = .returned (.pointer (some ⟨G, i * 10, none⟩)) ∧ w = w' := by
  obtain ⟨n, hn⟩ : ∃ n, n = ms.length := ⟨_, rfl⟩
  have hn8 : 1 ≤ n ∧ n ≤ 8 := by rw [hn]; exact h.len
  have c0 : w.cell? ⟨P, 0, none⟩ = some (.slice (some ⟨G, 0, none⟩) n n) := (h.qa.qb.cell 0).trans (by rw [hn]; rfl)

  rw [← hn] at hi
  have Q1 : Hid _ := within_any (i : Int) 0 ((n : Int) - 1) w
  have hb : inB (i : Int) 0 ((n : Int) - 1) = true := inB_iff.2 (by omega)
  rw [hb] at Q1
  have w1 : IntKind.i64.wrap ((n : Int) - 1) = (n : Int) - 1 := i64_s _ (by omega) (by omega)
  have k0 : (0 : Int) ≤ (i : Int) := by omega
  have k1 : (i : Int) < (n : Int) := by omega
  have k2 : ((i : Int)).toNat = i := by omega
  clear h hn hb
  go_enter Try.func42, Try.ntmps42
  go_wp2_with fail
  refine Calls.mono Q1.out ?_
  rintro e1 w2 ⟨rfl, rfl⟩
  clear Q1
  go_wp2_with fail
  go_ret
  exact ⟨rfl, rfl⟩
set_option maxHeartbeats 1600000 in
set_option maxRecDepth 100000 in
theorem class_no (i : Int) (hi : ¬ (0 ≤ i ∧ i ≤ (ms.length : Int) - 1)) : Calls Try.prog 42 #[.pointer (some ⟨P, 0, none⟩), .int .i64 i] w fun e w' => e = .returned (.pointer none) ∧ w = w' := by
  obtain ⟨n, hn⟩ : ∃ n, n = ms.length := ⟨_, rfl⟩
  have hn8 : 1 ≤ n ∧ n ≤ 8 := by rw [hn]; exact h.len
  have c0 : w.cell? ⟨P, 0, none⟩ = some (.slice (some ⟨G, 0, none⟩) n n) := (h.qa.qb.cell 0).trans (by rw [hn]; rfl)

  rw [← hn] at hi
  have Q1 : Hid _ := within_any i 0 ((n : Int) - 1) w
  have hb : inB i 0 ((n : Int) - 1) = false := by
    cases hx : inB i 0 ((n : Int) - 1) with
    | false => rfl
    | true => exact absurd (inB_iff.1 hx) hi
  rw [hb] at Q1
  have w1 : IntKind.i64.wrap ((n : Int) - 1) = (n : Int) - 1 := i64_s _ (by omega) (by omega)
  clear h hn hb hi
  go_enter Try.func42, Try.ntmps42
  go_wp2_with fail
  refine Calls.mono Q1.out ?_
  rintro e1 w2 ⟨rfl, rfl⟩
  clear Q1
  go_wp2_with fail
  go_ret
  exact ⟨rfl, rfl⟩
set_option maxHeartbeats 1600000 in
set_option maxRecDepth 100000 in
theorem len_any (i : Int) : Calls Try.prog 24 #[.pointer (some ⟨P, 0, none⟩), .int .i64 i] w fun e w' => e = .returned (.int .i64 (lenQ (csOf ms) i)) ∧ w = w' := by
  have HQ : Hid (QQ w P G ms t) := h
  clear h
  by_cases hi : 0 ≤ i ∧ i ≤ (ms.length : Int) - 1
  · obtain ⟨k, hk⟩ : ∃ k : Nat, i = (k : Int) := ⟨i.toNat, by omega⟩
    subst hk
    obtain ⟨m, hm⟩ : ∃ m, ms[k]? = some m := ⟨_, List.getElem?_eq_getElem (by omega)⟩
    have Q1 : Hid _ := class_yes P G ms t w HQ.out k (by omega)
    have cc := HQ.out.qa.cell hm 7 rfl
    obtain ⟨z, hz⟩ : ∃ z : Int, z = (m.c.L.length : Int) := ⟨_, rfl⟩
    rw [← hz] at cc
    have HZ : Hid (lenQ (csOf ms) (k : Int) = z) := by
      show _ = _
      unfold lenQ
      rw [csOf_len, if_pos (by omega), Int.toNat_natCast, csOf_at hm, hz]
    clear hm hz hi
    go_enter Try.func24, Try.ntmps24
    go_wp2_with fail
    refine Calls.mono Q1.out ?_
    rintro e1 w2 ⟨rfl, rfl⟩
    clear Q1
    go_wp2_with fail
    go_ret
    exact ⟨by rw [HZ.out]; rfl, rfl⟩
  · have Q1 : Hid _ := class_no P G ms t w HQ.out i hi
    have HZ : Hid (lenQ (csOf ms) i = 0) := by show _ = _; unfold lenQ; rw [csOf_len, if_neg hi]
    clear hi
    go_enter Try.func24, Try.ntmps24
    go_wp2_with fail
    refine Calls.mono Q1.out ?_
    rintro e1 w2 ⟨rfl, rfl⟩
    clear Q1
    go_wp2_with fail
    go_ret
    exact ⟨by rw [HZ.out]; rfl, rfl⟩
set_option maxHeartbeats 1600000 in
set_option maxRecDepth 100000 in
theorem bytes_any (i : Int) : Calls Try.prog 25 #[.pointer (some ⟨P, 0, none⟩), .int .i64 i] w fun e w' => e = .returned (.int .i64 (bytQ (csOf ms) i)) ∧ w = w' := by
  have HQ : Hid (QQ w P G ms t) := h
  clear h
  by_cases hi : 0 ≤ i ∧ i ≤ (ms.length : Int) - 1
  · obtain ⟨k, hk⟩ : ∃ k : Nat, i = (k : Int) := ⟨i.toNat, by omega⟩
    subst hk
    obtain ⟨m, hm⟩ : ∃ m, ms[k]? = some m := ⟨_, List.getElem?_eq_getElem (by omega)⟩
    have Q1 : Hid _ := class_yes P G ms t w HQ.out k (by omega)
    have cc := HQ.out.qa.cell hm 8 rfl
    obtain ⟨z, hz⟩ : ∃ z : Int, z = m.b := ⟨_, rfl⟩
    rw [← hz] at cc
    have HZ : Hid (bytQ (csOf ms) (k : Int) = z) := by
      show _ = _
      unfold bytQ
      rw [csOf_len, if_pos (by omega), Int.toNat_natCast, csOf_at hm, hz]
      exact (HQ.out.by' m (List.mem_of_getElem? hm)).symm
    clear hm hz hi
    go_enter Try.func25, Try.ntmps25
    go_wp2_with fail
    refine Calls.mono Q1.out ?_
    rintro e1 w2 ⟨rfl, rfl⟩
    clear Q1
    go_wp2_with fail
    go_ret
    exact ⟨by rw [HZ.out]; rfl, rfl⟩
  · have Q1 : Hid _ := class_no P G ms t w HQ.out i hi
    have HZ : Hid (bytQ (csOf ms) i = 0) := by show _ = _; unfold bytQ; rw [csOf_len, if_neg hi]
    clear hi
    go_enter Try.func25, Try.ntmps25
    go_wp2_with fail
    refine Calls.mono Q1.out ?_
    rintro e1 w2 ⟨rfl, rfl⟩
    clear Q1
    go_wp2_with fail
    go_ret
    exact ⟨by rw [HZ.out]; rfl, rfl⟩
set_option maxHeartbeats 1600000 in
set_option maxRecDepth 100000 in
theorem push_any (i size number : Int) : Calls Try.prog 16 #[.pointer (some ⟨P, 0, none⟩), .int .i64 i, .int .i64 size, .int .i64 number] w fun e w' => ∃ ms', e = .returned (.int .i64 (pushE (csOf ms) i size)) ∧ QQ w' P G ms' t ∧ csOf ms' = pushCs (csOf ms) i size number ∧ Ch (QB P G ms) w w' ∧ ∀ q, QB P G ms' q → QB P G ms q ∨ w.heap.size ≤ q := by
  have HQ : Hid (QQ w P G ms t) := h
  have HPO : Hid (QOk (pushCs (csOf ms) i size number) t) := push_ok h.ok
  clear h
  by_cases hi : 0 ≤ i ∧ i ≤ (ms.length : Int) - 1
  · obtain ⟨k, hk⟩ : ∃ k : Nat, i = (k : Int) := ⟨i.toNat, by omega⟩
    subst hk
    obtain ⟨m, hm⟩ : ∃ m, ms[k]? = some m := ⟨_, List.getElem?_eq_getElem (by omega)⟩
    have hmm := List.mem_of_getElem? hm
    have HM : Hid (ms[k]? = some m ∧ (0 ≤ (k : Int) ∧ (k : Int) ≤ (ms.length : Int) - 1) ∧ cAt (csOf ms) ((k : Int)).toNat = m.c ∧ ClOk m.c ∧ m.b = szL m.c.L) := ⟨hm, hi, by rw [Int.toNat_natCast]; exact csOf_at hm, HQ.out.c hmm, HQ.out.by' m hmm⟩
    have Q1 : Hid _ := class_yes P G ms t w HQ.out k (by omega)
    have Q2 : Hid _ := within_any size 1 65535 w
    obtain ⟨b2, hb2⟩ : ∃ b, inB size 1 65535 = b := ⟨_, rfl⟩
    have HB2 : Hid (inB size 1 65535 = b2) := hb2
    rw [hb2] at Q2
    clear hb2 hm hi hmm
    go_enter Try.func16, Try.ntmps16
    go_wp2_with fail
    refine Calls.mono Q1.out ?_
    rintro e1 w1 ⟨rfl, rfl⟩
    clear Q1
    go_wp2_with fail
    refine Calls.mono Q2.out ?_
    rintro e2 w2 ⟨rfl, rfl⟩
    clear Q2
    cases b2 with
    | false =>
      have HE : Hid (pushE (csOf ms) (k : Int) size = 182) := by
        show _ = _
        unfold pushE
        rw [csOf_len, if_pos HM.out.2.1, if_neg (fun hh => by have := inB_iff.2 hh; rw [HB2.out] at this; cases this)]
      have HCS : Hid (pushCs (csOf ms) (k : Int) size number = csOf ms) := by show _ = _; unfold pushCs; rw [if_neg (by rw [HE.out]; decide)]
      go_wp2_with fail
      go_ret
      exact ⟨ms, by rw [HE.out]; rfl, HQ.out, HCS.out.symm, Ch.refl _ _, fun _ h => .inl h⟩
    | true =>
      have hs := inB_iff.1 HB2.out
      have hnn := szL_nn HM.out.2.2.2.1.el
      have hsz := HM.out.2.2.2.1.sz
      have hby := HM.out.2.2.2.1.li.by'
      have hit := HM.out.2.2.2.1.li.it
      have Q3 : Hid _ := hasRoom_any w P G ms t HQ.out.qa k m HM.out.1 size HM.out.2.2.2.2 (by omega)
      obtain ⟨b3, hb3⟩ : ∃ b, room m.c size = b := ⟨_, rfl⟩
      have HB3 : Hid (room m.c size = b3) := hb3
      rw [hb3] at Q3
      have HS : Hid ((1 ≤ size ∧ size ≤ 65535) ∧ 0 ≤ szL m.c.L ∧ szL m.c.L ≤ 67108864 ∧ m.c.li.it ≤ 4096) := ⟨hs, hnn, by omega, hit.2⟩
      clear hb3 hs hnn hsz hby hit
      go_wp2_with fail
      refine Calls.mono Q3.out ?_
      rintro e3 w3 ⟨rfl, b3'⟩
      have HW3 : Hid (QQ w3 P G ms t ∧ Below w.heap.size w w3) := ⟨HQ.out.below b3', b3'⟩
      clear Q3 b3'
      cases b3 with
      | false =>
        have HE : Hid (pushE (csOf ms) (k : Int) size = 183) := by
          show _ = _
          unfold pushE
          rw [csOf_len, if_pos HM.out.2.1, if_pos HS.out.1, HM.out.2.2.1, HB3.out]
          rfl
        have HCS : Hid (pushCs (csOf ms) (k : Int) size number = csOf ms) := by show _ = _; unfold pushCs; rw [if_neg (by rw [HE.out]; decide)]
        go_wp2_with fail
        go_ret
        exact ⟨ms, by rw [HE.out]; rfl, HW3.out.1, HCS.out.symm, Ch.ofBelow HW3.out.2, fun _ h => .inl h⟩
      | true =>
        have HE : Hid (pushE (csOf ms) (k : Int) size = 0) := by
          show _ = _
          unfold pushE
          rw [csOf_len, if_pos HM.out.2.1, if_pos HS.out.1, HM.out.2.2.1, HB3.out]
          rfl
        have hr : (m.c.L.length : Int) < m.c.li.it := by
          have := HB3.out
          unfold room at this
          simp only [Bool.and_eq_true, decide_eq_true_eq] at this
          exact this.1
        have Q4 : Hid _ := joinC_any w3 P G ms t HW3.out.1.qa k m HM.out.1 size number (by have := HS.out; omega) (by have := HS.out; have h5 := HM.out.2.2.2.2; omega)
        clear hr
        go_wp2_with fail
        refine Calls.mono Q4.out ?_
        rintro e4 w4 ⟨m', rfl, q4, hc4, hb4, k4, s4⟩
        have HF : Hid (QQ w4 P G (ms.set k m') t ∧ csOf (ms.set k m') = pushCs (csOf ms) (k : Int) size number ∧ Ch (QB P G ms) w w4 ∧ ∀ q, QB P G (ms.set k m') q → QB P G ms q ∨ w.heap.size ≤ q) := by
          have hcs : csOf (ms.set k m') = pushCs (csOf ms) (k : Int) size number := by
            unfold pushCs
            rw [if_pos HE.out, csOf_set, hc4, HM.out.2.2.1, Int.toNat_natCast]
          refine ⟨⟨q4, fun y hy => ?_, by rw [hcs]; exact HPO.out⟩, hcs, (Ch.ofBelow HW3.out.2).trans (k4.mono (fun q _ e => qb_own HM.out.1 q e)) (fun _ _ e => e), fun q hq => (qb_set HM.out.1 s4 q hq).imp id (fun e => Nat.le_trans HW3.out.2.size e)⟩
          rcases List.mem_or_eq_of_mem_set hy with h1 | rfl
          · exact HQ.out.by' y h1
          · rw [hc4, hb4, HM.out.2.2.2.2]
            show _ = szL (m.c.L ++ [(number, size)])
            rw [szL_app]
            simp [szL]
        clear q4 hc4 hb4 k4 s4 Q4
        go_wp2_with fail
        go_ret
        exact ⟨ms.set k m', by rw [HE.out]; rfl, HF.out⟩
  · have Q1 : Hid _ := class_no P G ms t w HQ.out i hi
    have HE : Hid (pushE (csOf ms) i size = 181) := by show _ = _; unfold pushE; rw [csOf_len, if_neg hi]
    have HCS : Hid (pushCs (csOf ms) i size number = csOf ms) := by show _ = _; unfold pushCs; rw [if_neg (by rw [HE.out]; decide)]
    clear hi
    go_enter Try.func16, Try.ntmps16
    go_wp2_with fail
    refine Calls.mono Q1.out ?_
    rintro e1 w1 ⟨rfl, rfl⟩
    clear Q1
    go_wp2_with fail
    go_ret
    exact ⟨ms, by rw [HE.out]; rfl, HQ.out, HCS.out.symm, Ch.refl _ _, fun _ h => .inl h⟩
set_option maxHeartbeats 1600000 in
set_option maxRecDepth 100000 in
theorem tick_any  : Calls Try.prog 26 #[.pointer (some ⟨P, 0, none⟩)] w fun e w' => ∃ ms', e = .returned (.tuple #[]) ∧ QQ w' P G ms' t ∧ csOf ms' = (csOf ms).map fillC ∧ Ch (QB P G ms) w w' ∧ ∀ q, QB P G ms' q → QB P G ms q := by
  obtain ⟨n, hn⟩ : ∃ n, n = ms.length := ⟨_, rfl⟩
  have hn8 : 1 ≤ n ∧ n ≤ 8 := by rw [hn]; exact h.len
  have c0 : w.cell? ⟨P, 0, none⟩ = some (.slice (some ⟨G, 0, none⟩) n n) := (h.qa.qb.cell 0).trans (by rw [hn]; rfl)

  have HQ : Hid (QQ w P G ms t ∧ n = ms.length) := ⟨h, hn⟩
  have HTO : Hid (QOk ((csOf ms).map fillC) t) := tick_ok h.ok
  clear h hn
  go_enter Try.func26, Try.ntmps26
  go_wp2
  go_loopw [8] (fun iv wr => ∃ (k : Nat) (ms' : List CM), k ≤ n ∧ iv = .int .i64 (k : Nat) ∧ Hid (QA wr P G ms' t ∧ ms'.length = n ∧ (∀ j, j < k → ∃ m m', ms[j]? = some m ∧ ms'[j]? = some m' ∧ m'.c = fillC m.c ∧ m'.b = m.b ∧ m'.v = m.v) ∧ (∀ j, k ≤ j → ms'[j]? = ms[j]?) ∧ Ch (QB P G ms) w wr)) (fun iv _ => n - (intOf iv).toNat)
  case atStart => exact ⟨0, ms, Nat.zero_le _, rfl, HQ.out.1.qa, HQ.out.2.symm, fun j hj => absurd hj (Nat.not_lt_zero _), fun _ _ => rfl, Ch.refl _ _⟩
  case round =>
    obtain ⟨k, ms', hk, rfl, HR⟩ := hrel
    clear c0
    by_cases hkn : k < n
    · have p1 : decide ((k : Int) < (n : Int)) = true := decide_eq_true (by omega)
      have p2 : decide (k < n) = true := decide_eq_true hkn
      have k0 : (0 : Int) ≤ (k : Int) := by omega
      have k1 : (k : Int) < (n : Int) := by omega
      have k2 : ((k : Int)).toNat = k := by omega
      have w1 : IntKind.i64.wrap ((k : Int) + 1) = (k : Int) + 1 := i64_s _ (by omega) (by omega)
      have c0 : wr.cell? ⟨P, 0, none⟩ = some (.slice (some ⟨G, 0, none⟩) n n) := (HR.out.1.qb.cell 0).trans (by rw [HR.out.2.1]; rfl)
      obtain ⟨m, hm⟩ : ∃ m, ms[k]? = some m := ⟨_, List.getElem?_eq_getElem (by rw [← HQ.out.2]; exact hkn)⟩
      have hm' : ms'[k]? = some m := (HR.out.2.2.2.1 k (Nat.le_refl _)).trans hm
      have HM : Hid (ms[k]? = some m ∧ ms'[k]? = some m) := ⟨hm, hm'⟩
      have hcl := HQ.out.1.c (List.mem_of_getElem? hm)
      have QF : Hid _ := fill_any wr P G ms' t HR.out.1 k m hm' (fun hr => by have h1 := hcl.tk hr; have h2 := hcl.li.ra; have h3 := hcl.li.bu hr; omega)
      clear hm hm' hcl
      go_upto_region 3 with fail
      go_wp2_with fail
      refine Calls.mono QF.out ?_
      rintro e2 w2 ⟨m', rfl, q2, hc2, hb2, hv2, k2'⟩
      have HZ : Hid (QA w2 P G (ms'.set k m') t ∧ (ms'.set k m').length = n ∧ (∀ j, j < k + 1 → ∃ m m'', ms[j]? = some m ∧ (ms'.set k m')[j]? = some m'' ∧ m''.c = fillC m.c ∧ m''.b = m.b ∧ m''.v = m.v) ∧ (∀ j, k + 1 ≤ j → (ms'.set k m')[j]? = ms[j]?) ∧ Ch (QB P G ms) w w2) := by
        refine ⟨q2, by rw [List.length_set]; exact HR.out.2.1, fun j hj => ?_, fun j hj => ?_, HR.out.2.2.2.2.trans (k2'.mono (T := QB P G ms) (fun q _ e => .inr (.inl e))) (fun _ _ e => e)⟩
        · by_cases e : j = k
          · subst e
            exact ⟨m, m', HM.out.1, List.getElem?_set_self (List.getElem?_eq_some_iff.1 HM.out.2).1, hc2, hb2, hv2⟩
          · rw [List.getElem?_set_ne (fun x => e x.symm)]
            exact HR.out.2.2.1 j (by omega)
        · rw [List.getElem?_set_ne (by omega)]
          exact HR.out.2.2.2.1 j (by omega)
      clear q2 hc2 hb2 hv2 k2' QF
      go_wp2_with fail
      go_roundw
      case rel => exact ⟨k + 1, ms'.set k m', by omega, rfl, HZ.out⟩
      case measure => simp only [intOf]; omega
    · have p1 : decide ((k : Int) < (n : Int)) = false := decide_eq_false (by omega)
      have p2 : decide (k < n) = false := decide_eq_false hkn
      have HF : Hid (QQ wr P G ms' t ∧ csOf ms' = (csOf ms).map fillC ∧ Ch (QB P G ms) w wr ∧ ∀ q, QB P G ms' q → QB P G ms q) := by
        have hkn' : k = n := by omega
        subst hkn'
        have hcs : csOf ms' = (csOf ms).map fillC := by
          unfold csOf
          rw [List.map_map]
          apply List.ext_getElem?
          intro j
          rw [List.getElem?_map, List.getElem?_map]
          by_cases hj : j < k
          · obtain ⟨m, m', h1, h2, h3, _, _⟩ := HR.out.2.2.1 j hj
            rw [h1, h2]
            simp [h3]
          · rw [HR.out.2.2.2.1 j (by omega), List.getElem?_eq_none (by rw [← HQ.out.2]; omega)]
            rfl
        have hmem : ∀ y ∈ ms', ∃ m ∈ ms, y.c = fillC m.c ∧ y.b = m.b ∧ y.v = m.v := fun y hy => by
          obtain ⟨j, hj⟩ := List.getElem?_of_mem hy
          have hjl := (List.getElem?_eq_some_iff.1 hj).1
          obtain ⟨m, m', h1, h2, h3, h4, h5⟩ := HR.out.2.2.1 j (by have := HR.out.2.1; omega)
          rw [h2] at hj
          cases hj
          exact ⟨m, List.mem_of_getElem? h1, h3, h4, h5⟩
        refine ⟨⟨HR.out.1, fun y hy => ?_, by rw [hcs]; exact HTO.out⟩, hcs, HR.out.2.2.2.2, fun q hq => ?_⟩
        · obtain ⟨m, h1, h2, h3, _⟩ := hmem y hy
          rw [h2, h3, fill_L]
          exact HQ.out.1.by' m h1
        · rcases hq with hq | hq | ⟨y, hy, hq⟩
          · exact .inl hq
          · exact .inr (.inl hq)
          · obtain ⟨m, h1, _, _, h4⟩ := hmem y hy
            exact .inr (.inr ⟨m, h1, by rw [← h4]; exact hq⟩)
      clear hkn hk
      go_wp2_with fail
      go_end0
      exact ⟨ms', rfl, HF.out⟩
end
end Go.Proofs.Ytclkcpdghpaboaa
