/-
  Layer 18: a class's leave, fill.
-/
import Derived.Test.YtclkcpdghpaboaaQF4
namespace Go.Proofs.Ytclkcpdghpaboaa
open Go.RowKit

theorem QA.setc {w : World} {P G : Nat} {ms : List CM} {t : TN} (h : QA w P G ms t) {i : Nat} {m m' : CM} (hi : ms[i]? = some m) (k : Nat) (u : Value) (hk : k < 10) (hm : (cmL m).set k u = cmL m') (h1 : m'.v = m.v) (h2 : m'.f = m.f) (h3 : m'.S = m.S) (h4 : m'.c.L = m.c.L) : QA (w.setCell ⟨G, i * 10 + k, none⟩ u) P G (ms.set i m') t ∧ Ch (fun q => q = G) w (w.setCell ⟨G, i * 10 + k, none⟩ u) := by
  have kk : Ch (fun q => q = G) w (w.setCell ⟨G, i * 10 + k, none⟩ u) := (Ch.refl (fun q => q = G) w).set ⟨G, i * 10 + k, none⟩ _ rfl
  have hl := h.ln m (List.mem_of_getElem? hi)
  have hp := (h.pm (List.mem_of_getElem? hi)).2
  have h5 := hl.ch kk (fun q hq e => hp (by rw [hq, e]))
  exact ⟨h.put hi (kk.mono (fun _ _ e => .inl e)) (gl_set h.gl i k u hi hk hm) ⟨by rw [h1, h3]; exact h5.own, by rw [h2, h3]; exact h5.fl, by rw [h3, h4]; exact h5.ql, by rw [h2, h3, h4]; exact h5.at', by rw [h3]; exact h5.nb, by rw [h1, h3]; exact h5.nl⟩ (fun q hq => .inl (by rw [← h1]; exact hq)), kk⟩
theorem takeC_hd {c : CL} {x : Int × Int} {L : List (Int × Int)} (h : c.L = x :: L) : takeC c = ⟨c.li, c.L.tail, if 0 < c.li.ra then c.tk - x.2 else c.tk⟩ := by unfold takeC; rw [h]; rfl
section
variable (w : World) (P G : Nat) (ms : List CM) (t : TN) (h : QA w P G ms t) (i : Nat) (m : CM) (hi : ms[i]? = some m)
include h hi
set_option maxHeartbeats 1600000 in
set_option maxRecDepth 100000 in
theorem leaveC_any (x : Int × Int) (L : List (Int × Int)) (hL : m.c.L = x :: L) (hx : 1 ≤ x.2 ∧ x.2 ≤ 65535) (hb : 0 ≤ m.b ∧ m.b ≤ 100000000) (ht : 0 < m.c.li.ra → 0 ≤ m.c.tk ∧ m.c.tk ≤ 268435456) : Calls Try.prog 63 #[.pointer (some ⟨G, i * 10, none⟩)] w fun e w' => ∃ m', e = .returned (.agg (itA x)) ∧ QA w' P G (ms.set i m') t ∧ m'.c = takeC m.c ∧ m'.b = m.b - x.2 ∧ m'.v = m.v ∧ Ch (fun q => q = G ∨ m.v.ownBlock = some q) w w' := by
  have HQ0 : Hid (QA w P G ms t ∧ ms[i]? = some m ∧ m.c.L = x :: L) := ⟨h, hi, hL⟩
  have wb : IntKind.i64.wrap (m.b - x.2) = m.b - x.2 := i64_s _ (by omega) (by omega)
  have wt : 0 < m.c.li.ra → IntKind.i64.wrap (m.c.tk - x.2) = m.c.tk - x.2 := fun hr => by have := ht hr; exact i64_s _ (by omega) (by omega)
  have HWT : Hid (0 < m.c.li.ra → IntKind.i64.wrap (m.c.tk - x.2) = m.c.tk - x.2) := wt
  clear h hi hL hb ht wt hx
  obtain ⟨Y, hY⟩ : ∃ Y_, Y_ = w.alloc (.cells (itA iz) 119) := ⟨_, rfl⟩
  have bY : Below w.heap.size w Y := by rw [hY]; exact (Below.refl _ _).alloc (Nat.le_refl _) _
  obtain ⟨O, hO⟩ : ∃ O, O = w.heap.size := ⟨_, rfl⟩
  have HNY : Hid (ItmAt Y O iz) := by show ItmAt Y O iz; rw [hY, hO]; exact itm_new w iz
  have HLY : Hid (Below w.heap.size w Y) := bY
  have HEY : Hid (w.alloc (.cells #[.int .i64 0, .int .i64 0] 119) = Y) := hY.symm
  have HOY : Hid (w.heap.size = O) := hO.symm
  clear hY bY hO

  have HQ : Hid (QA Y P G ms t) := HQ0.out.1.below HLY.out
  have QL : Hid _ := leaveL_any Y P G ms t HQ.out i m HQ0.out.2.1 x L HQ0.out.2.2
  go_enter Try.func63, Try.ntmps63
  go_upto_region 1 with fail
  rw [HOY.out, HEY.out]
  go_wp2_with fail
  refine Calls.mono QL.out ?_
  rintro e1 w1 ⟨rfl, q1, k1⟩
  have HO1 : Hid (ItmAt w1 O iz ∧ O < w1.heap.size) := by
    have h1 := HNY.out.ch k1 (fun e => by
      have h2 := HOY.out
      rcases e with e | e
      · have := HQ0.out.1.gk.1; omega
      · have := HQ0.out.1.lt O (.inr (.inr ⟨m, List.mem_of_getElem? HQ0.out.2.1, e⟩)); omega)
    exact ⟨h1, h1.lt⟩
  have HZ1 : Hid (QA w1 P G (ms.set i (left m)) t ∧ Ch (fun q => q = G ∨ m.v.ownBlock = some q) w w1) := ⟨q1, (Ch.ofBelow HLY.out).trans k1 (fun _ _ e => e)⟩
  clear q1 k1 QL
  obtain ⟨X, hY⟩ : ∃ Y_, Y_ = w1.alloc (.cells (itA iz) 119) := ⟨_, rfl⟩
  have bY : Below w1.heap.size w1 X := by rw [hY]; exact (Below.refl _ _).alloc (Nat.le_refl _) _
  obtain ⟨V, hO⟩ : ∃ O, O = w1.heap.size := ⟨_, rfl⟩
  have HNX : Hid (ItmAt X V iz) := by show ItmAt X V iz; rw [hY, hO]; exact itm_new w1 iz
  have HLX : Hid (Below w1.heap.size w1 X) := bY
  have HEX : Hid (w1.alloc (.cells #[.int .i64 0, .int .i64 0] 119) = X) := hY.symm
  have HOX : Hid (w1.heap.size = V) := hO.symm
  clear hY bY hO

  go_wp2_with (first | (refine wpList_store_itm (.tmp 3) (.tmp 7) rfl rfl w1.heap.size iz x rfl rfl (itm_new w1 iz) rfl ?_))
  intro w2 h2 k2
  have HZ2 : Hid (QA w2 P G (ms.set i (left m)) t ∧ Ch (fun q => q = G ∨ m.v.ownBlock = some q) w w2 ∧ ItmAt w2 O iz ∧ ItmAt w2 V x ∧ O ≠ V ∧ w.heap.size ≤ O ∧ w.heap.size ≤ V) := by
    have k3 : Ch (fun q => q = V) X w2 := by rw [← HOX.out, ← HEX.out]; exact k2
    have hs := HZ1.out.2.size
    have hv := HOX.out
    have ho := HO1.out.2
    have hVq : ∀ q, QB P G (ms.set i (left m)) q → q ≠ V := fun q hq e => by have := HZ1.out.1.lt q hq; omega
    exact ⟨(HZ1.out.1.below HLX.out).ch k3 hVq, (HZ1.out.2.trans (Ch.ofBelow (S := fun _ => False) HLX.out) (fun _ _ e => e.elim)).trans k3 (fun q hq e => by omega), (HO1.out.1.below HLX.out).ch k3 (by omega), by rw [← HOX.out]; exact h2, by omega, by have := HOY.out; omega, by omega⟩
  rw [HOX.out]
  clear h2 k2 HZ1 HNX HLX HEX HO1
  have hi2 : (ms.set i (left m))[i]? = some (left m) := set_same (List.getElem?_eq_some_iff.1 HQ0.out.2.1).1
  have HI2 : Hid ((ms.set i (left m))[i]? = some (left m)) := hi2
  have c8 := HZ2.out.1.cell hi2 8 rfl
  have z8 := HZ2.out.1.fzG (i * 10 + 8)
  have z8' : w2.drew.frozen? ⟨G, i * 10 + 8, none⟩ = false := z8
  have i1 : w2.cell? ⟨V, 1, none⟩ = some (.int .i64 x.2) := HZ2.out.2.2.2.1.cell 1
  have hbl : (left m).b = m.b := rfl
  rw [hbl] at c8
  obtain ⟨w3, hw3⟩ : ∃ w3, w3 = (w2.setCell ⟨G, i * 10 + 8, none⟩ (.int .i64 (m.b - x.2))).drew := ⟨_, rfl⟩
  have HW3 : Hid ((w2.setCell ⟨G, i * 10 + 8, none⟩ (.int .i64 (m.b - x.2))).drew = w3) := hw3.symm
  obtain ⟨ma, hma⟩ : ∃ ma : CM, ma = ⟨(left m).c, m.v, (left m).f, (left m).S, m.b - x.2⟩ := ⟨_, rfl⟩
  have HMA : Hid (ma = ⟨(left m).c, m.v, (left m).f, (left m).S, m.b - x.2⟩) := hma
  have HZ3 : Hid (QA w3 P G (ms.set i ma) t ∧ Ch (fun q => q = G ∨ m.v.ownBlock = some q) w w3 ∧ ItmAt w3 O iz ∧ ItmAt w3 V x ∧ (ms.set i ma)[i]? = some ma) := by
    have s1 := HZ2.out.1.setc (m' := ma) hi2 8 (.int .i64 (m.b - x.2)) (by decide) (by rw [hma]; rfl) (by rw [hma]; rfl) (by rw [hma]) (by rw [hma]) (by rw [hma])
    rw [List.set_set] at s1
    have hG := HQ0.out.1.gk.1
    have hh := HZ2.out
    rw [hw3]
    exact ⟨s1.1.drew, (HZ2.out.2.1.trans s1.2 (fun _ _ e => .inl e)).drew, (HZ2.out.2.2.1.ch s1.2 (by omega)).below (Below.refl _ _).drew, (HZ2.out.2.2.2.1.ch s1.2 (by omega)).below (Below.refl _ _).drew, set_same (List.getElem?_eq_some_iff.1 HQ0.out.2.1).1⟩
  have QS : Hid _ := shaped_any w3 P G (ms.set i ma) t HZ3.out.1 i ma HZ3.out.2.2.2.2
  have HLI : Hid (ma.c.li = m.c.li ∧ ma.c.tk = m.c.tk ∧ ma.c.L = m.c.L.tail ∧ ma.v = m.v ∧ ma.b = m.b - x.2) := by rw [hma]; exact ⟨rfl, rfl, rfl, rfl, rfl⟩
  rw [HLI.out.1] at QS
  have HTC : Hid (takeC m.c = ⟨m.c.li, m.c.L.tail, if 0 < m.c.li.ra then m.c.tk - x.2 else m.c.tk⟩) := takeC_hd HQ0.out.2.2
  clear hma hi2 hbl hw3
  go_upto_region 2 with fail
  go_region
  rw [HW3.out]
  clear c8 z8 z8' i1
  go_upto_region 3 with fail
  go_wp2_with fail
  refine Calls.mono QS.out ?_
  rintro e4 w4 ⟨rfl, rfl⟩
  clear QS
  by_cases hr : 0 < m.c.li.ra
  · have qr : decide (0 < m.c.li.ra) = true := decide_eq_true hr
    have wt := HWT.out hr
    have HR : Hid (0 < m.c.li.ra) := hr
    clear hr
    have c9 := HZ3.out.1.cell HZ3.out.2.2.2.2 9 rfl
    rw [HLI.out.2.1] at c9
    have z9 := HZ3.out.1.fzG (i * 10 + 9)
    have z9' : w3.drew.frozen? ⟨G, i * 10 + 9, none⟩ = false := z9
    have i1 : w3.cell? ⟨V, 1, none⟩ = some (.int .i64 x.2) := HZ3.out.2.2.2.1.cell 1
    obtain ⟨w5, hw5⟩ : ∃ w5, w5 = (w3.setCell ⟨G, i * 10 + 9, none⟩ (.int .i64 (m.c.tk - x.2))).drew := ⟨_, rfl⟩
    have HW5 : Hid ((w3.setCell ⟨G, i * 10 + 9, none⟩ (.int .i64 (m.c.tk - x.2))).drew = w5) := hw5.symm
    obtain ⟨mb, hmb⟩ : ∃ mb : CM, mb = ⟨takeC m.c, m.v, ma.f, ma.S, m.b - x.2⟩ := ⟨_, rfl⟩
    have HMB : Hid (mb.c = takeC m.c ∧ mb.b = m.b - x.2 ∧ mb.v = m.v) := by rw [hmb]; exact ⟨rfl, rfl, rfl⟩
    have HZ5 : Hid (QA w5 P G (ms.set i mb) t ∧ Ch (fun q => q = G ∨ m.v.ownBlock = some q) w w5 ∧ ItmAt w5 O iz ∧ ItmAt w5 V x ∧ w.heap.size ≤ O) := by
      have s1 := HZ3.out.1.setc (m' := mb) HZ3.out.2.2.2.2 9 (.int .i64 (m.c.tk - x.2)) (by decide) (by rw [hmb, HTC.out, if_pos HR.out, HMA.out]; rfl) (by rw [hmb, HLI.out.2.2.2.1]) (by rw [hmb]) (by rw [hmb]) (by rw [hmb, HTC.out, HLI.out.2.2.1])
      rw [List.set_set] at s1
      have hG := HQ0.out.1.gk.1
      have hh := HZ2.out
      rw [hw5]
      exact ⟨s1.1.drew, (HZ3.out.2.1.trans s1.2 (fun _ _ e => .inl e)).drew, (HZ3.out.2.2.1.ch s1.2 (by omega)).below (Below.refl _ _).drew, (HZ3.out.2.2.2.1.ch s1.2 (by omega)).below (Below.refl _ _).drew, HZ2.out.2.2.2.2.2.1⟩
    clear hw5 hmb
    go_upto_region 4 with fail
    go_region
    rw [HW5.out]
    clear c9 z9 z9' i1
    go_upto_region 5 with fail
    go_wp2_with (first | (refine wpList_load_itm (.tmp 3) rfl V x rfl HZ5.out.2.2.2.1 rfl ?_) | (refine wpList_store_itm (.tmp 2) (.tmp 28) rfl rfl O iz x rfl rfl HZ5.out.2.2.1 rfl ?_))
    intro w8 h8 k8
    have HZ8 : Hid (ItmAt w8 O x ∧ QA w8 P G (ms.set i mb) t ∧ Ch (fun q => q = G ∨ m.v.ownBlock = some q) w w8) := ⟨h8, HZ5.out.1.ch k8 (fun q hq e => by
        have hO := HZ5.out.2.2.2.2
        rcases hq with hq | hq | ⟨y, hy, hq⟩
        · have := HQ0.out.1.qb.lt; omega
        · have := HQ0.out.1.gk.1; omega
        · rcases List.mem_or_eq_of_mem_set hy with h1 | h1
          · have := HQ0.out.1.lt q (.inr (.inr ⟨y, h1, hq⟩)); omega
          · rw [h1, HMB.out.2.2] at hq
            have := HQ0.out.1.lt q (.inr (.inr ⟨m, List.mem_of_getElem? HQ0.out.2.1, hq⟩)); omega), HZ5.out.2.1.trans k8 (fun q hq e => by have hO := HZ5.out.2.2.2.2; omega)⟩
    clear h8 k8
    go_wp2_with fail
    refine bodyPost_ret (results_itm rfl _ _ O _ rfl HZ8.out.1) rfl ?_
    exact ⟨mb, rfl, HZ8.out.2.1, HMB.out.1, HMB.out.2.1, HMB.out.2.2, HZ8.out.2.2⟩
  · have qr : decide (0 < m.c.li.ra) = false := decide_eq_false hr
    have HMB : Hid (ma.c = takeC m.c ∧ ma.b = m.b - x.2 ∧ ma.v = m.v) := by rw [HMA.out, HTC.out, if_neg hr]; exact ⟨rfl, rfl, rfl⟩
    have HZ5 : Hid (QA w3 P G (ms.set i ma) t ∧ Ch (fun q => q = G ∨ m.v.ownBlock = some q) w w3 ∧ ItmAt w3 O iz ∧ ItmAt w3 V x ∧ w.heap.size ≤ O) := ⟨HZ3.out.1, HZ3.out.2.1, HZ3.out.2.2.1, HZ3.out.2.2.2.1, HZ2.out.2.2.2.2.2.1⟩
    clear hr
    go_upto_region 5 with fail
    go_wp2_with (first | (refine wpList_load_itm (.tmp 3) rfl V x rfl HZ5.out.2.2.2.1 rfl ?_) | (refine wpList_store_itm (.tmp 2) (.tmp 28) rfl rfl O iz x rfl rfl HZ5.out.2.2.1 rfl ?_))
    intro w8 h8 k8
    have HZ8 : Hid (ItmAt w8 O x ∧ QA w8 P G (ms.set i ma) t ∧ Ch (fun q => q = G ∨ m.v.ownBlock = some q) w w8) := ⟨h8, HZ5.out.1.ch k8 (fun q hq e => by
        have hO := HZ5.out.2.2.2.2
        rcases hq with hq | hq | ⟨y, hy, hq⟩
        · have := HQ0.out.1.qb.lt; omega
        · have := HQ0.out.1.gk.1; omega
        · rcases List.mem_or_eq_of_mem_set hy with h1 | h1
          · have := HQ0.out.1.lt q (.inr (.inr ⟨y, h1, hq⟩)); omega
          · rw [h1, HMB.out.2.2] at hq
            have := HQ0.out.1.lt q (.inr (.inr ⟨m, List.mem_of_getElem? HQ0.out.2.1, hq⟩)); omega), HZ5.out.2.1.trans k8 (fun q hq e => by have hO := HZ5.out.2.2.2.2; omega)⟩
    clear h8 k8
    go_wp2_with fail
    refine bodyPost_ret (results_itm rfl _ _ O _ rfl HZ8.out.1) rfl ?_
    exact ⟨ma, rfl, HZ8.out.2.1, HMB.out.1, HMB.out.2.1, HMB.out.2.2, HZ8.out.2.2⟩
set_option maxHeartbeats 1600000 in
set_option maxRecDepth 100000 in
theorem fill_any (hr : 0 < m.c.li.ra → 0 ≤ m.c.tk + m.c.li.ra ∧ m.c.tk + m.c.li.ra ≤ 1000000000) : Calls Try.prog 49 #[.pointer (some ⟨G, i * 10, none⟩)] w fun e w' => ∃ m', e = .returned (.tuple #[]) ∧ QA w' P G (ms.set i m') t ∧ m'.c = fillC m.c ∧ m'.b = m.b ∧ m'.v = m.v ∧ Ch (fun q => q = G) w w' := by
  have HQ0 : Hid (QA w P G ms t ∧ ms[i]? = some m) := ⟨h, hi⟩
  have QS : Hid _ := shaped_any w P G ms t h i m hi
  have c9 := h.cell hi 9 rfl
  have c3 := h.cell hi 3 rfl
  have c4 := h.cell hi 4 rfl
  have z9 := h.fzG (i * 10 + 9)
  have z9' : w.drew.frozen? ⟨G, i * 10 + 9, none⟩ = false := z9
  clear h hi
  go_enter Try.func49, Try.ntmps49
  go_wp2_with fail
  refine Calls.mono QS.out ?_
  rintro e1 w1 ⟨rfl, rfl⟩
  clear QS
  by_cases h0 : 0 < m.c.li.ra
  · have qr : decide (0 < m.c.li.ra) = true := decide_eq_true h0
    have wt : IntKind.i64.wrap (m.c.tk + m.c.li.ra) = m.c.tk + m.c.li.ra := by have := hr h0; exact i64_s _ (by omega) (by omega)
    have HE : Hid (fillC m.c = ⟨m.c.li, m.c.L, min (m.c.tk + m.c.li.ra) m.c.li.bu⟩) := if_pos h0
    have HS : Hid (∀ v, v = min (m.c.tk + m.c.li.ra) m.c.li.bu → QA (w.setCell ⟨G, i * 10 + 9, none⟩ (.int .i64 v)).drew P G (ms.set i ⟨fillC m.c, m.v, m.f, m.S, m.b⟩) t ∧ Ch (fun q => q = G) w (w.setCell ⟨G, i * 10 + 9, none⟩ (.int .i64 v)).drew) := fun v hv => by
      have s1 := HQ0.out.1.setc (m' := ⟨fillC m.c, m.v, m.f, m.S, m.b⟩) HQ0.out.2 9 (.int .i64 v) (by decide) (by rw [HE.out, hv]; rfl) rfl rfl rfl (by rw [HE.out])
      exact ⟨s1.1.drew, s1.2.drew⟩
    clear h0 hr
    by_cases hm : m.c.li.bu < m.c.tk + m.c.li.ra
    · have HV : Hid (m.c.li.bu = min (m.c.tk + m.c.li.ra) m.c.li.bu) := by show _ = _; omega
      go_upto_region 1 with fail
      go_region
      go_wp2
      go_end0
      exact ⟨_, rfl, (HS.out _ HV.out).1, rfl, rfl, rfl, (HS.out _ HV.out).2⟩
    · have HV : Hid (m.c.tk + m.c.li.ra = min (m.c.tk + m.c.li.ra) m.c.li.bu) := by show _ = _; omega
      go_upto_region 1 with fail
      go_region
      go_wp2
      go_end0
      exact ⟨_, rfl, (HS.out _ HV.out).1, rfl, rfl, rfl, (HS.out _ HV.out).2⟩
  · have qr : decide (0 < m.c.li.ra) = false := decide_eq_false h0
    have HE : Hid (fillC m.c = m.c) := if_neg h0
    have HX : Hid (QA w P G (ms.set i m) t) := by
      have : ms.set i m = ms := List.ext_getElem? (fun j => by
        by_cases e : j = i
        · subst e; rw [List.getElem?_set_self (List.getElem?_eq_some_iff.1 HQ0.out.2).1]; exact HQ0.out.2.symm
        · rw [List.getElem?_set_ne (fun x => e x.symm)])
      show QA w P G (ms.set i m) t
      rw [this]; exact HQ0.out.1
    clear h0 hr
    go_wp2_with fail
    go_end0
    exact ⟨m, rfl, HX.out, HE.out.symm, rfl, rfl, Ch.refl _ _⟩
end
end Go.Proofs.Ytclkcpdghpaboaa
