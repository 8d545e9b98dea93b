/-
  Layer 18: anyReady, take, look.
-/
import Derived.Test.YtclkcpdghpaboaaQF6
namespace Go.Proofs.Ytclkcpdghpaboaa
open Go.RowKit

/-- a queue: in memory and in numbers -/
structure QQ (w : World) (P G : Nat) (ms : List CM) (t : TN) : Prop where
  qa : QA w P G ms t
  by' : ∀ m ∈ ms, m.b = szL m.c.L
  ok : QOk (csOf ms) t
theorem QQ.len {w : World} {P G : Nat} {ms : List CM} {t : TN} (h : QQ w P G ms t) : 1 ≤ ms.length ∧ ms.length ≤ 8 := by have := h.ok.len; rwa [csOf_len] at this
theorem QQ.c {w : World} {P G : Nat} {ms : List CM} {t : TN} (h : QQ w P G ms t) {m : CM} (hm : m ∈ ms) : ClOk m.c := h.ok.cl m.c (List.mem_map.2 ⟨m, hm, rfl⟩)
theorem QQ.ch {S : Nat → Prop} {w w' : World} {P G : Nat} {ms : List CM} {t : TN} (h : QQ w P G ms t) (k : Ch S w w') (hS : ∀ q, QB P G ms q → ¬ S q) : QQ w' P G ms t := ⟨h.qa.ch k hS, h.by', h.ok⟩
theorem QQ.below {w w' : World} {P G : Nat} {ms : List CM} {t : TN} (h : QQ w P G ms t) (k : Below w.heap.size w w') : QQ w' P G ms t := ⟨h.qa.below k, h.by', h.ok⟩
theorem any_take {cs : List CL} {k : Nat} (hk : k < cs.length) : anyR (cs.take (k + 1)) = (anyR (cs.take k) || (cAt cs k).rdy) := by
  unfold anyR
  rw [List.take_succ_eq_append_getElem hk, List.any_append]
  have : cs[k] = cAt cs k := by have := cAt_get hk; rw [List.getElem?_eq_getElem hk] at this; exact Option.some.inj this
  rw [this]
  simp
theorem any_true {cs : List CL} {k : Nat} (hk : k < cs.length) (hr : (cAt cs k).rdy = true) : anyR cs = true := by
  unfold anyR
  rw [List.any_eq_true]
  exact ⟨cAt cs k, List.mem_of_getElem? (cAt_get hk), hr⟩
set_option maxHeartbeats 1600000 in
set_option maxRecDepth 100000 in
theorem anyReady_any (P G : Nat) (ms : List CM) (t : TN) (w : World) (h : QA w P G ms t) (hl : ms.length ≤ 8) : Calls Try.prog 59 #[.pointer (some ⟨P, 0, none⟩)] w fun e w' => e = .returned (.bool (anyR (csOf ms))) ∧ Below w.heap.size w w' := by
  obtain ⟨n, hn⟩ : ∃ n, n = ms.length := ⟨_, rfl⟩
  have HN : Hid (n = ms.length ∧ (csOf ms).length = n) := ⟨hn, by rw [csOf_len, hn]⟩
  have HQ : Hid (QA w P G ms t) := h
  have HC0 : Hid (∀ A, QA A P G ms t → A.cell? ⟨P, 0, none⟩ = some (.slice (some ⟨G, 0, none⟩) n n)) := fun A hA => (hA.qb.cell 0).trans (by rw [hn]; rfl)
  have c0 := HC0.out w h
  have hn8 : n ≤ 8 := by omega
  clear h hn hl
  go_enter Try.func59, Try.ntmps59
  go_wp2
  go_loopw [9] (fun iv wr => ∃ k : Nat, k ≤ n ∧ iv = .int .i64 (k : Nat) ∧ Hid (anyR ((csOf ms).take k) = false ∧ QA wr P G ms t ∧ Below w.heap.size w wr)) (fun iv _ => n - (intOf iv).toNat)
  case atStart => exact ⟨0, Nat.zero_le _, rfl, ⟨rfl, HQ.out, Below.refl _ _⟩⟩
  case round =>
    obtain ⟨k, hk, rfl, HR⟩ := hrel
    clear c0
    by_cases hkn : k < n
    · have p1 : decide ((k : Int) < (n : Int)) = true := decide_eq_true (by omega)
      have p2 : decide (k < n) = true := decide_eq_true hkn
      have k0 : (0 : Int) ≤ (k : Int) := by omega
      have k1 : (k : Int) < (n : Int) := by omega
      have k2 : ((k : Int)).toNat = k := by omega
      have w1 : IntKind.i64.wrap ((k : Int) + 1) = (k : Int) + 1 := i64_s _ (by omega) (by omega)
      have c0 := HC0.out wr HR.out.2.1
      obtain ⟨m, hm⟩ : ∃ m, ms[k]? = some m := ⟨_, List.getElem?_eq_getElem (by rw [← HN.out.1]; exact hkn)⟩
      have QR : Hid _ := ready_any wr P G ms t HR.out.2.1 k m hm
      have HM : Hid (cAt (csOf ms) k = m.c ∧ k < (csOf ms).length) := ⟨csOf_at hm, by rw [HN.out.2]; exact hkn⟩
      obtain ⟨rb, hrb⟩ : ∃ rb, m.c.rdy = rb := ⟨_, rfl⟩
      have HRB : Hid (m.c.rdy = rb) := hrb
      rw [hrb] at QR
      clear hm hrb
      go_upto_region 4 with fail
      go_wp2_with fail
      refine Calls.mono QR.out ?_
      rintro e2 w2 ⟨rfl, b2⟩
      have HB2 : Hid (QA w2 P G ms t ∧ Below w.heap.size w w2) := ⟨HR.out.2.1.below b2, bthen HR.out.2.2 b2⟩
      clear b2 QR
      cases rb with
      | true =>
        have HA : Hid (anyR (csOf ms) = true) := any_true HM.out.2 (by rw [HM.out.1]; exact HRB.out)
        go_wp2_with fail
        go_ret
        exact ⟨by rw [HA.out]; rfl, HB2.out.2⟩
      | false =>
        have HA : Hid (anyR ((csOf ms).take (k + 1)) = false) := by show _ = _; rw [any_take HM.out.2, HR.out.1, HM.out.1, HRB.out]; rfl
        go_wp2_with fail
        go_roundw
        case rel => exact ⟨k + 1, by omega, rfl, HA.out, HB2.out.1, HB2.out.2⟩
        case measure => simp only [intOf]; omega
    · have p1 : decide ((k : Int) < (n : Int)) = false := decide_eq_false (by omega)
      have p2 : decide (k < n) = false := decide_eq_false hkn
      have HA : Hid (anyR (csOf ms) = false) := by
        have h1 := HR.out.1
        rwa [List.take_of_length_le (by rw [HN.out.2]; omega)] at h1
      clear hkn hk
      go_wp2_with fail
      go_ret
      exact ⟨by rw [HA.out]; rfl, HR.out.2.2⟩
/-- a box with a turn -/
theorem QA.turn {w w' : World} {P G : Nat} {ms : List CM} {t u : TN} (h : QA w P G ms t) (hq : QueAt w' P (.slice (some ⟨G, 0, none⟩) ms.length ms.length) u) (k : Ch (fun q => q = P) w w') : QA w' P G ms u :=
  ⟨hq, h.gl.ch k (fun q hq' e => h.pg (by simp only [Value.ownBlock, Option.some.injEq] at hq'; rw [hq', e])), fun m hm => (h.ln m hm).ch k (fun q hq' e => (h.pm hm).1 (by rw [hq', e])), h.ap⟩
theorem turn_cells (v : Value) (t u : TN) : ((tnA u).toList.foldl (fun (p : Array Value × Nat) v => (p.1.setIfInBounds p.2 v, p.2 + 1)) (quA v t, 1)).1 = quA v u := by kernel_rfl
theorem wpList_store_tq {ops : Array Oper} {rest : List Oper} {o : Oper} {a : Act} {w : World} {Q : Exit → Act → World → Prop} (x y : Operand) (ho : o.op = .store 102 x y) (hd : o.dst = none) (P : Nat) (v : Value) (t u : TN) (hx : a.eval x = .pointer (some ⟨P, 1, none⟩)) (hy : a.eval y = .agg (tnA u)) (hb : QueAt w P v t)
    (hw : Region.wanted o (yielded ops a.tmps) = true) (hh : ∀ w', QueAt w' P v u → Ch (fun q => q = P) w w' → wpList Try.prog ops Q rest a w') : wpList Try.prog ops Q (o :: rest) a w := by
  refine wpList_step fun K hK => ?_
  rw [if_pos hw]
  refine wp_store_mid 102 x y ho P 1 (tnA u) hx hy (fun j hj => ⟨?_, hb.fz _⟩) Try.size_trn (by simp [tnA, Value.oneCell']) (hK _ _ ?_)
  · rw [hb.cell]
    have : j < 10 := hj
    rcases (show j = 0 ∨ j = 1 ∨ j = 2 ∨ j = 3 ∨ j = 4 ∨ j = 5 ∨ j = 6 ∨ j = 7 ∨ j = 8 ∨ j = 9 by omega) with rfl | rfl | rfl | rfl | rfl | rfl | rfl | rfl | rfl | rfl <;> rfl
  · rw [hd]
    refine hh _ ?_ (ch_setCells w P _ _)
    unfold QueAt at hb ⊢
    have s : ∀ (vs : List Value) (o : Nat) (w : World) (c : Array Value), w.heap[P]? = some (.cells c 104 (0, 0)) → ∃ c', (w.setCells P o vs).heap[P]? = some (.cells c' 104 (0, 0)) ∧ c' = (vs.foldl (fun (p : Array Value × Nat) v => (p.1.setIfInBounds p.2 v, p.2 + 1)) (c, o)).1 := by
      intro vs
      induction vs with
      | nil => intro o w c h; exact ⟨c, h, rfl⟩
      | cons v vs ih =>
        intro o w c h
        exact ih (o + 1) _ _ (heap_setCell_same w P o _ _ v h)
    obtain ⟨c', h1, h2⟩ := s (tnA u).toList 1 w _ hb
    rw [h1, h2, turn_cells]
section
variable (P G : Nat) (ms : List CM) (t : TN) (w : World) (h : QQ w P G ms t) (u : TN) (m : CM) (hi : ms[u.at']? = some m)
include h hi
set_option maxHeartbeats 1600000 in
set_option maxRecDepth 100000 in
theorem look_any (x : Int × Int) (L : List (Int × Int)) (hL : m.c.L = x :: L) : Calls Try.prog 48 #[.pointer (some ⟨P, 0, none⟩), .agg (tnA u)] w fun e w' => e = .returned (.int .i64 x.1) ∧ Below w.heap.size w w' := by
  obtain ⟨i, hie⟩ : ∃ i, u.at' = i := ⟨_, rfl⟩
  rw [hie] at hi
  obtain ⟨n, hn⟩ : ∃ n, n = ms.length := ⟨_, rfl⟩
  have hin : i < n := by rw [hn]; exact (List.getElem?_eq_some_iff.1 hi).1
  have HH : Hid (QA w P G ms t ∧ u.at' = i ∧ ms[i]? = some m ∧ n = ms.length ∧ m.c.L = x :: L) := ⟨h.qa, hie, hi, hn, hL⟩
  have hn8 : n ≤ 8 := by rw [hn]; exact h.len.2
  have k0 : (0 : Int) ≤ (i : Int) := by omega
  have k1 : (i : Int) < (n : Int) := by omega
  have k2 : ((i : Int)).toNat = i := by omega
  clear h hi hn hL hie
  have hb := trn_new w u
  have bel : Below w.heap.size w (w.alloc (.cells (tnA u) 102)) := (Below.refl _ _).alloc (Nat.le_refl _) _
  obtain ⟨CX, hC⟩ : ∃ C, C = tnA u := ⟨_, rfl⟩
  obtain ⟨W, hW⟩ : ∃ W_, W_ = w.alloc (.cells (tnA u) 102) := ⟨_, rfl⟩
  rw [← hW] at hb bel
  have HSZX : Hid (W.heap.size = w.heap.size + 1) := by show _ = _; rw [hW, World.size_alloc]
  obtain ⟨B, hB⟩ : ∃ B, B = w.heap.size := ⟨_, rfl⟩
  rw [← hB] at hb
  have HBX : Hid (TrnAt W B u) := hb
  rw [← hC] at hW ⊢
  have HOX : Hid (w.heap.size = B) := hB.symm
  have HLX : Hid (Below w.heap.size w W) := bel
  have HWX : Hid (w.alloc (.cells CX 102) = W) := hW.symm
  clear hb hW hB hC bel

  have HT : Hid (TQ W P G ms t B u) := ⟨HH.out.1.below HLX.out, HBX.out⟩
  go_enter Try.func48, Try.ntmps48
  go_upto_region 1 with fail
  rw [HOX.out, HWX.out]
  refine MixH.start (fun A => TQ A P G ms t B u) (by kernel_rfl) ?_
  obtain ⟨wA, hwA⟩ : ∃ W_, W_ = W.drew := ⟨_, rfl⟩
  have bdr : Below W.heap.size W wA := by rw [hwA]; exact (Below.refl _ _).drew
  have hS : TQ wA P G ms t B u := HT.out.below bdr
  have HA : Hid (Below w.heap.size w wA) := bthen HLX.out bdr
  have QH : Hid _ := head_any wA P G ms t hS.qa i m HH.out.2.2.1 x L HH.out.2.2.2.2
  rw [← hwA]
  clear hwA bdr
  refine MixH.takes [true, true, true, false, true] 7 (by kernel_rfl) (by kernel_rfl) (by decide) (by kernel_rfl) hS (fun K hK => ?_)
  simp only [Mix.pick]
  repeat (go_big_quiet_step (fail))
  refine wpQuiet_nil (hK _ ?_)
  clear hK K
  refine MixH.take 6 3 _ (.slice (some ⟨G, 0, none⟩) n n) rfl (by kernel_rfl) (by kernel_rfl) (by kernel_rfl) (by kernel_rfl) (yields_cls (.tmp 7) rfl ⟨P, 0, none⟩ (.slice (some ⟨G, 0, none⟩) n n) rfl rfl (fun A hA => (hA.qa.qb.cell 0).trans (by rw [HH.out.2.2.2.1]; rfl))) hS (fun a' ha => ?_)
  simp only [Act.put, List.setIfInBounds_toArray, List.set_cons_succ, List.set_cons_zero] at ha
  subst ha
  refine MixH.take 5 5 _ (.int .i64 (i : Int)) rfl (by kernel_rfl) (by kernel_rfl) (by kernel_rfl) (by kernel_rfl) (yields_int (.tmp 9) rfl ⟨B, 0, none⟩ (.int .i64 (i : Int)) rfl rfl (fun A hA => (hA.tb.cell 0).trans (by rw [← HH.out.2.1]; rfl))) hS (fun a' ha => ?_)
  simp only [Act.put, List.setIfInBounds_toArray, List.set_cons_succ, List.set_cons_zero] at ha
  subst ha
  refine MixH.takes [false, false, false, false, false, false, true, true] 3 (by kernel_rfl) (by kernel_rfl) (by decide) (by kernel_rfl) hS (fun K hK => ?_)
  simp only [Mix.pick]
  repeat (go_big_quiet_step (fail))
  refine wpQuiet_nil (hK _ ?_)
  clear hK K
  refine MixH.one [false, false, false, false, false, false, false, false, true] 2 8 _ rfl rfl (by kernel_rfl) (by kernel_rfl) (fun K hK => ?_)
  simp only [Mix.pick]
  go_wp2_with fail
  refine Calls.mono (QH.out) ?_
  rintro e4 w4 ⟨rfl, b4⟩
  replace hS : TQ w4 P G ms t B u := hS.below b4
  have HZ : Hid (Below w.heap.size w w4) := bthen HA.out b4
  clear b4
  go_wp2_with fail
  refine ⟨rfl, hK _ _ hS ?_⟩
  clear hK K
  refine MixH.take 1 9 _ (.int .i64 x.1) rfl (by kernel_rfl) (by kernel_rfl) (by kernel_rfl) (by kernel_rfl) (yields_f0 (.tmp 13) rfl x rfl rfl) hS (fun a' ha => ?_)
  simp only [Act.put, List.setIfInBounds_toArray, List.set_cons_succ, List.set_cons_zero] at ha
  subst ha
  refine MixH.takes [false, false, false, false, false, false, false, false, false, false, true] 0 (by kernel_rfl) (by kernel_rfl) (by decide) (by kernel_rfl) hS (fun K hK => ?_)
  simp only [Mix.pick]
  repeat (go_big_quiet_step (fail))
  refine wpQuiet_nil (hK _ ?_)
  clear hK K
  refine MixH.done (by kernel_rfl) ?_
  clear hS QH
  go_wp2_with fail
  go_ret
  exact ⟨rfl, HZ.out⟩
end
end Go.Proofs.Ytclkcpdghpaboaa
