/-
  Layer 18: walk, Pop, Peek.
-/
import Derived.Test.YtclkcpdghpaboaaQF8
namespace Go.Proofs.Ytclkcpdghpaboaa
open Go.RowKit

def mzW (cs : List CL) (k B : Nat) (w : World) : Nat := match w.cell? ⟨B, 0, none⟩, w.cell? ⟨B, 1, none⟩, w.cell? ⟨B, 2 + k, none⟩ with
  | some (.int _ a), some (.bool g), some (.int _ d) => mzT cs.length k (hdS (cAt cs k).L) a.toNat g d
  | _, _, _ => 0
theorem mzW_eq {cs : List CL} {k B : Nat} {w : World} {v : TN} (h : TrnAt w B v) (hk : k < 8) : mzW cs k B w = mz cs k v := by
  unfold mzW mz
  have h0 : w.cell? ⟨B, 0, none⟩ = some (.int .i64 (v.at' : Int)) := h.cell 0
  have h1 : w.cell? ⟨B, 1, none⟩ = some (.bool v.gv) := h.cell 1
  rw [h0, h1, h.dc k hk]
  simp only [Int.toNat_natCast]
noncomputable def popU (cs : List CL) (t : TN) : TN := fin cs t
noncomputable def popN (cs : List CL) (t : TN) : Int := if anyR cs then hdN (cAt cs (fin cs t).at').L else 0
noncomputable def popC (cs : List CL) (t : TN) : Int := if anyR cs then ((fin cs t).at' : Int) else 0
noncomputable def popQ (cs : List CL) (t : TN) : List CL := if anyR cs then popCs cs (fin cs t) else cs
noncomputable def popT (cs : List CL) (t : TN) : TN := if anyR cs then popD cs (fin cs t) else t
theorem popX {cs : List CL} {t : TN} (h : QOk cs t) : QOk (popQ cs t) (popT cs t) := by
  unfold popQ popT
  split
  · rename_i ha
    obtain ⟨h1, h2, h3, h4⟩ := (run_fin h ha).end' h
    exact pop_ok h1 h2 h3 h4
  · exact h
theorem TrnAt.all {w : World} {O : Nat} {x : TN} (h : TrnAt w O x) : w.rangeAt O 0 (tnA x).toList := by
  have e := TrnAt.range h 0 (tnA x).size
  rwa [Nat.zero_add, Array.extract_size] at e
set_option maxHeartbeats 3200000 in
set_option maxRecDepth 100000 in
theorem walk_pop (P G : Nat) (ms : List CM) (t : TN) (w : World) (h : QQ w P G ms t) : Calls Try.prog 46 #[.pointer (some ⟨P, 0, none⟩), .func (.func 47) #[.pointer (some ⟨P, 0, none⟩)] #[]] w fun e w' => ∃ ms', e = .returned (.tuple #[.int .i64 (popN (csOf ms) t), .int .i64 (popC (csOf ms) t), .bool (anyR (csOf ms))]) ∧ QQ w' P G ms' (popT (csOf ms) t) ∧ csOf ms' = popQ (csOf ms) t ∧ Ch (QB P G ms) w w' ∧ ∀ q, QB P G ms' q → QB P G ms q := by
  obtain ⟨n, hn⟩ : ∃ n, n = ms.length := ⟨_, rfl⟩
  have hl := h.len
  rw [← hn] at hl
  have HH : Hid (QQ w P G ms t ∧ n = ms.length ∧ (csOf ms).length = n) := ⟨h, hn, by rw [csOf_len, hn]⟩
  have QA1 : Hid _ := anyReady_any P G ms t w h.qa h.len.2
  obtain ⟨ab, hab⟩ : ∃ ab, anyR (csOf ms) = ab := ⟨_, rfl⟩
  have HAN : Hid (anyR (csOf ms) = ab) := hab
  rw [hab] at QA1
  have n0 : ((n : Int) == 0) = false := beq_eq_false_iff_ne.2 (by omega)
  clear h hn hab
  go_enter Try.func46, Try.ntmps46
  go_upto_region 1 with fail
  go_wp2_with fail
  refine Calls.mono QA1.out ?_
  rintro e1 w1 ⟨rfl, b1⟩
  have HB1 : Hid (QQ w1 P G ms t ∧ Below w.heap.size w w1) := ⟨HH.out.1.below b1, b1⟩
  clear b1 QA1
  cases ab with
  | false =>
    have HNO : Hid (popN (csOf ms) t = 0 ∧ popC (csOf ms) t = 0 ∧ popT (csOf ms) t = t ∧ popQ (csOf ms) t = csOf ms) := by
      unfold popN popC popT popQ
      rw [HAN.out]
      exact ⟨rfl, rfl, rfl, rfl⟩
    go_wp2_with fail
    go_ret3
    exact ⟨ms, by rw [HNO.out.1, HNO.out.2.1, HAN.out]; rfl, by rw [HNO.out.2.2.1]; exact HB1.out.1, HNO.out.2.2.2.symm, Ch.ofBelow HB1.out.2, fun _ h => h⟩
  | true =>
    obtain ⟨k, hk, hr⟩ := any_some HAN.out
    have HK : Hid (k < (csOf ms).length ∧ (cAt (csOf ms) k).rdy = true ∧ k < 8) := ⟨hk, hr, by have := HH.out.1.ok.len.2; omega⟩
    clear hk hr
    obtain ⟨Y, hY⟩ : ∃ Y, Y = w1.alloc (.cells (tnA tz) 102) := ⟨_, rfl⟩
    obtain ⟨B, hB⟩ : ∃ B, w1.heap.size = B := ⟨_, rfl⟩
    go_upto_region 3 with fail
    go_wp2_with (first | (refine wpList_mid_trn (.tmp 13) rfl P 1 t rfl HB1.out.1.qa.qb.tn rfl ?_) | (refine wpList_alloc_trn rfl rfl ?_) | (refine wpList_store_trn (.tmp 7) (.tmp 14) rfl rfl w1.heap.size tz t rfl rfl (trn_new w1 tz) rfl ?_))
    intro w2 h2 k2
    have HT2 : Hid (QQ w2 P G ms t ∧ TrnAt w2 B t ∧ Below w.heap.size w w2 ∧ w.heap.size ≤ B) := by
      have b0 : Below w1.heap.size w1 (w1.alloc (.cells (tnA tz) 102)) := (Below.refl _ _).alloc (Nat.le_refl _) _
      have b2 : Below w1.heap.size w1 w2 := b0.trans (k2.below (fun q hq => by omega) b0.size)
      have hs := HB1.out.2.size
      exact ⟨HB1.out.1.below b2, h2, bthen HB1.out.2 b2, by omega⟩
    clear hY hB h2 k2 Y HB1
    go_wp2_with fail
    go_loopw [] (fun wr => ∃ v : TN, Hid (QQ wr P G ms t ∧ TrnAt wr B v ∧ Below w.heap.size w wr ∧ QOk (csOf ms) v ∧ ∀ z, Run (csOf ms) v z → Run (csOf ms) t z)) (fun wr => mzW (csOf ms) k B wr)
    case atStart => exact ⟨t, HT2.out.1, HT2.out.2.1, HT2.out.2.2.1, HT2.out.1.ok, fun _ h => h⟩
    case round =>
      obtain ⟨v, HR⟩ := hrel
      obtain ⟨a, ha⟩ : ∃ a, v.at' = a := ⟨_, rfl⟩
      have hav : a < n := by rw [← ha, ← HH.out.2.2]; exact HR.out.2.2.2.1.tn.at'
      obtain ⟨m, hm⟩ : ∃ m, ms[a]? = some m := ⟨_, List.getElem?_eq_getElem (by rw [← HH.out.2.1]; exact hav)⟩
      have HM : Hid (v.at' = a ∧ ms[a]? = some m ∧ cAt (csOf ms) a = m.c ∧ a < n) := ⟨ha, hm, csOf_at hm, hav⟩
      have k0 : (0 : Int) ≤ (a : Int) := by omega
      have k1 : (a : Int) < (n : Int) := by omega
      have k2 : ((a : Int)).toNat = a := by omega
      have HBW : Hid (w.heap.size ≤ B) := HT2.out.2.2.2
      clear ha hm
      go_upto_region 4 with fail
      refine MixH.start (fun A => QA A P G ms t ∧ A.cell? ⟨B, 0, none⟩ = some (.int .i64 (a : Int))) (by kernel_rfl) ?_
      obtain ⟨wA, hwA⟩ : ∃ W_, W_ = wr.drew := ⟨_, rfl⟩
      have bdr : Below wr.heap.size wr wA := by rw [hwA]; exact (Below.refl _ _).drew
      have HA : Hid (TQ wA P G ms t B v ∧ Below w.heap.size w wA) := ⟨⟨HR.out.1.qa.below bdr, HR.out.2.1.below bdr⟩, bthen HR.out.2.2.1 bdr⟩
      have hS : QA wA P G ms t ∧ wA.cell? ⟨B, 0, none⟩ = some (.int .i64 (a : Int)) := ⟨HA.out.1.qa, (HA.out.1.tb.cell 0).trans (by rw [← HM.out.1]; rfl)⟩
      have QS : Hid _ := serves_any wA P G ms t B v HA.out.1 m (by rw [HM.out.1]; exact HM.out.2.1) (by have := HM.out; omega) (by
        have h1 := HR.out.2.2.2.1
        have h8 : v.at' < 8 := by have := HM.out; omega
        have hq := (HR.out.1.c (List.mem_of_getElem? HM.out.2.1)).li.q
        exact ⟨h1.tn.lo _ h8, h1.tn.up _ h8, by omega, by omega⟩)
      rw [HM.out.1] at QS
      obtain ⟨sb, hsb⟩ : ∃ sb, srv (csOf ms) v = sb := ⟨_, rfl⟩
      have HSB : Hid (srv (csOf ms) v = sb) := hsb
      rw [hsb] at QS
      clear hsb
      rw [← hwA]
      clear hwA bdr
      refine MixH.takes [true, true, true, false, true] 5 (by kernel_rfl) (by kernel_rfl) (by decide) (by kernel_rfl) hS (fun K hK => ?_)
      simp only [Mix.pick]
      repeat (go_big_quiet_step (fail))
      refine wpQuiet_nil (hK _ ?_)
      clear hK K
      refine MixH.take 4 3 _ (.slice (some ⟨G, 0, none⟩) n n) rfl (by kernel_rfl) (by kernel_rfl) (by kernel_rfl) (by kernel_rfl) (yields_cls (.tmp 17) rfl ⟨P, 0, none⟩ (.slice (some ⟨G, 0, none⟩) n n) rfl rfl (fun A hA => (hA.1.qb.cell 0).trans (by rw [HH.out.2.1]; rfl))) hS (fun a' ha => ?_)
      simp only [Act.put, List.setIfInBounds_toArray, List.set_cons_succ, List.set_cons_zero] at ha
      subst ha
      refine MixH.take 3 5 _ (.int .i64 (a : Int)) rfl (by kernel_rfl) (by kernel_rfl) (by kernel_rfl) (by kernel_rfl) (yields_int (.tmp 19) rfl ⟨B, 0, none⟩ (.int .i64 (a : Int)) rfl rfl (fun A hA => hA.2)) hS (fun a' ha => ?_)
      simp only [Act.put, List.setIfInBounds_toArray, List.set_cons_succ, List.set_cons_zero] at ha
      subst ha
      refine MixH.takes [false, false, false, false, false, false, true] 2 (by kernel_rfl) (by kernel_rfl) (by decide) (by kernel_rfl) hS (fun K hK => ?_)
      simp only [Mix.pick]
      repeat (go_big_quiet_step (fail))
      refine wpQuiet_nil (hK _ ?_)
      clear hK K
      refine MixH.one [false, false, false, false, false, false, false, true] 1 7 _ rfl rfl (by kernel_rfl) (by kernel_rfl) (fun K hK => ?_)
      simp only [Mix.pick]
      go_wp2_with fail
      refine Calls.mono (QS.out) ?_
      rintro e3 w3 ⟨rfl, t3, k3⟩
      have b3 : Below w.heap.size w w3 := HA.out.2.trans (k3.below (fun q hq => by have := HBW.out; omega) HA.out.2.size)
      have HZ3 : Hid (TQ w3 P G ms t B (gr (csOf ms) v) ∧ Below w.heap.size w w3) := ⟨t3, b3⟩
      replace hS : QA w3 P G ms t ∧ w3.cell? ⟨B, 0, none⟩ = some (.int .i64 (a : Int)) := ⟨t3.qa, (t3.tb.cell 0).trans (by rw [← HM.out.1, ← gr_at (csOf ms) v]; rfl)⟩
      clear t3 k3 b3
      go_wp2_with fail
      refine ⟨rfl, hK _ _ hS ?_⟩
      clear hK K
      refine MixH.takes [false, false, false, false, false, false, false, false, true] 0 (by kernel_rfl) (by kernel_rfl) (by decide) (by kernel_rfl) hS (fun K hK => ?_)
      simp only [Mix.pick]
      repeat (go_big_quiet_step (fail))
      refine wpQuiet_nil (hK _ ?_)
      clear hK K
      refine MixH.done (by kernel_rfl) ?_
      clear hS QS
      have HOKG : Hid (QOk (csOf ms) (gr (csOf ms) v)) := HR.out.2.2.2.1.gr
      have HGA : Hid ((gr (csOf ms) v).at' = a) := (gr_at _ _).trans HM.out.1
      cases sb with
      | true =>
        have HRUN : Hid (Run (csOf ms) t (gr (csOf ms) v)) := HR.out.2.2.2.2 _ (.stop v HSB.out)
        have he := HRUN.out.end' HH.out.1.ok
        rw [HGA.out, HM.out.2.2.1] at he
        obtain ⟨x, L, hL⟩ := rdy_hd he.2.1
        have HL : Hid (m.c.L = x :: L) := hL
        have HRD : Hid (m.c.rdy = true) := he.2.1
        have HDE : Hid (x.2 ≤ (gr (csOf ms) v).de (gr (csOf ms) v).at') := by have h1 := he.2.2.1; rw [hL] at h1; rw [HGA.out]; exact h1
        have HGV : Hid ((gr (csOf ms) v).gv = true) := he.2.2.2
        have HMG : Hid (ms[(gr (csOf ms) v).at']? = some m) := by show _ = _; rw [HGA.out]; exact HM.out.2.1
        have HYES : Hid (popN (csOf ms) t = x.1 ∧ popC (csOf ms) t = (a : Int)) := by
          unfold popN popC
          rw [HAN.out, HRUN.out.fin, HGA.out, HM.out.2.2.1, hL]
          exact ⟨rfl, rfl⟩
        clear he hL
        go_upto_region 7 with fail
        refine MixH.start (fun A => TrnAt A B (gr (csOf ms) v)) (by kernel_rfl) ?_
        obtain ⟨wB, hwA⟩ : ∃ W_, W_ = w3.drew := ⟨_, rfl⟩
        have bdr : Below w3.heap.size w3 wB := by rw [hwA]; exact (Below.refl _ _).drew
        have hS : TrnAt wB B (gr (csOf ms) v) := HZ3.out.1.tb.below bdr
        have HB : Hid (QQ wB P G ms t ∧ ¬ QB P G ms B ∧ Below w.heap.size w wB) := ⟨⟨HZ3.out.1.qa.below bdr, HH.out.1.by', HH.out.1.ok⟩, HZ3.out.1.nb, bthen HZ3.out.2 bdr⟩
        have QT : Hid _ := take_any P G ms t wB HB.out.1 (gr (csOf ms) v) HOKG.out m HMG.out x L HL.out HRD.out HDE.out HGV.out
        rw [← hwA]
        clear hwA bdr
        refine MixH.takes [true, false, false, true] 6 (by kernel_rfl) (by kernel_rfl) (by decide) (by kernel_rfl) hS (fun K hK => ?_)
        simp only [Mix.pick]
        repeat (go_big_quiet_step (fail))
        refine wpQuiet_nil (hK _ ?_)
        clear hK K
        refine MixH.take 5 1 _ (.agg (tnA (gr (csOf ms) v))) rfl (by kernel_rfl) (by kernel_rfl) (by kernel_rfl) (by kernel_rfl) (yields_trn (.tmp 7) rfl B 0 (gr (csOf ms) v) rfl rfl (fun A hA => hA.all)) hS (fun a' ha => ?_)
        simp only [Act.put, List.setIfInBounds_toArray, List.set_cons_succ, List.set_cons_zero] at ha
        subst ha
        refine MixH.take 4 4 _ (.int .i64 (a : Int)) rfl (by kernel_rfl) (by kernel_rfl) (by kernel_rfl) (by kernel_rfl) (yields_int (.tmp 45) rfl ⟨B, 0, none⟩ (.int .i64 (a : Int)) rfl rfl (fun A hA => (TrnAt.cell hA 0).trans (by rw [← HGA.out]; rfl))) hS (fun a' ha => ?_)
        simp only [Act.put, List.setIfInBounds_toArray, List.set_cons_succ, List.set_cons_zero] at ha
        subst ha
        refine MixH.one [false, false, true] 3 2 _ rfl rfl (by kernel_rfl) (by kernel_rfl) (fun K hK => ?_)
        simp only [Mix.pick]
        go_wp2_with fail
        refine Calls.mono (QT.out) ?_
        rintro e6 w6 ⟨ms', rfl, q6, c6, k6, s6⟩
        have HF : Hid (QQ w6 P G ms' (popD (csOf ms) (gr (csOf ms) v)) ∧ csOf ms' = popCs (csOf ms) (gr (csOf ms) v) ∧ Ch (QB P G ms) w w6 ∧ ∀ q, QB P G ms' q → QB P G ms q) := ⟨q6, c6, (Ch.ofBelow HB.out.2.2).trans k6 (fun _ _ e => e), s6⟩
        replace hS : TrnAt w6 B (gr (csOf ms) v) := hS.ch k6 HB.out.2.1
        clear q6 c6 k6 s6
        go_wp2_with fail
        refine ⟨rfl, hK _ _ hS ?_⟩
        clear hK K
        refine MixH.takes [false, false, false, false, false, true, true, true] 0 (by kernel_rfl) (by kernel_rfl) (by decide) (by kernel_rfl) hS (fun K hK => ?_)
        simp only [Mix.pick]
        repeat (go_big_quiet_step (fail))
        refine wpQuiet_nil (hK _ ?_)
        clear hK K
        refine MixH.done (by kernel_rfl) ?_
        clear hS QT
        go_wp2_with fail
        go_ret3
        exact ⟨ms', by rw [HYES.out.1, HYES.out.2, HAN.out]; rfl, by unfold popT; rw [HAN.out, HRUN.out.fin]; exact HF.out.1, by unfold popQ; rw [HAN.out, HRUN.out.fin]; exact HF.out.2.1, HF.out.2.2.1, HF.out.2.2.2⟩
      | false =>
        have HNX : Hid (nxt (csOf ms) v = ⟨(a + 1) % n, false, (lvT (csOf ms) (gr (csOf ms) v)).de⟩) := by
          show _ = _
          unfold nxt
          rw [HM.out.1, HH.out.2.2]
        have HNO : Hid (QOk (csOf ms) (nxt (csOf ms) v)) := HR.out.2.2.2.1.nxt HSB.out
        have HMZ : Hid (mz (csOf ms) k (nxt (csOf ms) v) < mz (csOf ms) k v) := mz_nxt HR.out.2.2.2.1 HK.out.1 HK.out.2.1 HSB.out
        go_upto_region 5 with fail
        refine MixH.start (fun A => QA A P G ms t ∧ A.cell? ⟨B, 0, none⟩ = some (.int .i64 (a : Int))) (by kernel_rfl) ?_
        obtain ⟨wB, hwA⟩ : ∃ W_, W_ = w3.drew := ⟨_, rfl⟩
        have bdr : Below w3.heap.size w3 wB := by rw [hwA]; exact (Below.refl _ _).drew
        have HB : Hid (TQ wB P G ms t B (gr (csOf ms) v) ∧ Below w.heap.size w wB) := ⟨HZ3.out.1.below bdr, bthen HZ3.out.2 bdr⟩
        have hS : QA wB P G ms t ∧ wB.cell? ⟨B, 0, none⟩ = some (.int .i64 (a : Int)) := ⟨HB.out.1.qa, (HB.out.1.tb.cell 0).trans (by rw [← HGA.out]; rfl)⟩
        have QL : Hid _ := leaveT_any wB P G ms t B (gr (csOf ms) v) HB.out.1 m (by rw [HGA.out]; exact HM.out.2.1) (by rw [HGA.out]; have := HM.out; omega)
        rw [HGA.out] at QL
        rw [← hwA]
        clear hwA bdr
        refine MixH.takes [true, true, true, false, true] 4 (by kernel_rfl) (by kernel_rfl) (by decide) (by kernel_rfl) hS (fun K hK => ?_)
        simp only [Mix.pick]
        repeat (go_big_quiet_step (fail))
        refine wpQuiet_nil (hK _ ?_)
        clear hK K
        refine MixH.take 3 3 _ (.slice (some ⟨G, 0, none⟩) n n) rfl (by kernel_rfl) (by kernel_rfl) (by kernel_rfl) (by kernel_rfl) (yields_cls (.tmp 26) rfl ⟨P, 0, none⟩ (.slice (some ⟨G, 0, none⟩) n n) rfl rfl (fun A hA => (hA.1.qb.cell 0).trans (by rw [HH.out.2.1]; rfl))) hS (fun a' ha => ?_)
        simp only [Act.put, List.setIfInBounds_toArray, List.set_cons_succ, List.set_cons_zero] at ha
        subst ha
        refine MixH.take 2 5 _ (.int .i64 (a : Int)) rfl (by kernel_rfl) (by kernel_rfl) (by kernel_rfl) (by kernel_rfl) (yields_int (.tmp 28) rfl ⟨B, 0, none⟩ (.int .i64 (a : Int)) rfl rfl (fun A hA => hA.2)) hS (fun a' ha => ?_)
        simp only [Act.put, List.setIfInBounds_toArray, List.set_cons_succ, List.set_cons_zero] at ha
        subst ha
        refine MixH.takes [false, false, false, false, false, false, true] 1 (by kernel_rfl) (by kernel_rfl) (by decide) (by kernel_rfl) hS (fun K hK => ?_)
        simp only [Mix.pick]
        repeat (go_big_quiet_step (fail))
        refine wpQuiet_nil (hK _ ?_)
        clear hK K
        refine MixH.one [false, false, false, false, false, false, false, true] 0 7 _ rfl rfl (by kernel_rfl) (by kernel_rfl) (fun K hK => ?_)
        simp only [Mix.pick]
        go_wp2_with fail
        refine Calls.mono (QL.out) ?_
        rintro e4 w4 ⟨rfl, t4, k4⟩
        have b4 : Below w.heap.size w w4 := HB.out.2.trans (k4.below (fun q hq => by have := HBW.out; omega) HB.out.2.size)
        have HZ4 : Hid (TQ w4 P G ms t B (lvT (csOf ms) (gr (csOf ms) v)) ∧ Below w.heap.size w w4 ∧ w4.cell? ⟨B, 0, none⟩ = some (.int .i64 (a : Int))) := ⟨t4, b4, (t4.tb.cell 0).trans (by rw [← HGA.out, ← lvT_at (csOf ms) (gr (csOf ms) v)]; rfl)⟩
        replace hS : QA w4 P G ms t ∧ w4.cell? ⟨B, 0, none⟩ = some (.int .i64 (a : Int)) := ⟨t4.qa, HZ4.out.2.2⟩
        clear t4 k4 b4
        go_wp2_with fail
        refine ⟨rfl, hK _ _ hS ?_⟩
        clear hK K
        refine MixH.done (by kernel_rfl) ?_
        clear hS QL
        go_upto_region 6 with fail
        obtain ⟨b, hb⟩ : ∃ b, b = (a + 1) % n := ⟨_, rfl⟩
        have hbT : Int.tmod ((a : Int) + 1) (n : Int) = (b : Int) := by rw [Int.tmod_eq_emod_of_nonneg (by omega), hb]; simp
        have wa : IntKind.i64.wrap ((a : Int) + 1) = (a : Int) + 1 := i64_s _ (by omega) (by omega)
        have HBB : Hid (b = (a + 1) % n) := hb
        clear hb
        refine MixH.start (fun A => QA A P G ms t) (by kernel_rfl) ?_
        obtain ⟨wC, hwA⟩ : ∃ W_, W_ = w4.drew := ⟨_, rfl⟩
        have bdr : Below w4.heap.size w4 wC := by rw [hwA]; exact (Below.refl _ _).drew
        have HC : Hid (TQ wC P G ms t B (lvT (csOf ms) (gr (csOf ms) v)) ∧ Below w.heap.size w wC ∧ wC.cell? ⟨B, 0, none⟩ = some (.int .i64 (a : Int))) := ⟨HZ4.out.1.below bdr, bthen HZ4.out.2.1 bdr, by have h1 := (HZ4.out.1.below bdr).tb.cell 0; have h2 := HZ4.out.1.tb.cell 0; rw [HZ4.out.2.2] at h2; rw [h1, h2]⟩
        have hS : QA wC P G ms t := HC.out.1.qa
        have QC : Hid _ := come_any wC P G ms t B (lvT (csOf ms) (gr (csOf ms) v)) HC.out.1 b
        rw [← hwA]
        clear hwA bdr
        refine MixH.takes [true, false, false, true, true, true] 6 (by kernel_rfl) (by kernel_rfl) (by decide) (by kernel_rfl) hS (fun K hK => ?_)
        simp only [Mix.pick]
        repeat (go_big_quiet_step (fail))
        refine wpQuiet_nil (hK _ ?_)
        clear hK K
        refine MixH.take 5 6 _ (.slice (some ⟨G, 0, none⟩) n n) rfl (by kernel_rfl) (by kernel_rfl) (by kernel_rfl) (by kernel_rfl) (yields_cls (.tmp 37) rfl ⟨P, 0, none⟩ (.slice (some ⟨G, 0, none⟩) n n) rfl rfl (fun A hA => (hA.qb.cell 0).trans (by rw [HH.out.2.1]; rfl))) hS (fun a' ha => ?_)
        simp only [Act.put, List.setIfInBounds_toArray, List.set_cons_succ, List.set_cons_zero] at ha
        subst ha
        refine MixH.takes [false, false, false, false, false, false, false, true] 4 (by kernel_rfl) (by kernel_rfl) (by decide) (by kernel_rfl) hS (fun K hK => ?_)
        simp only [Mix.pick]
        repeat (go_big_quiet_step (fail))
        refine wpQuiet_nil (hK _ ?_)
        clear hK K
        refine MixH.one [false, true] 3 1 _ rfl rfl (by kernel_rfl) (by kernel_rfl) (fun K hK => ?_)
        simp only [Mix.pick]
        have cc := HC.out.2.2
        go_wp2_with fail
        clear cc
        refine ⟨rfl, hK _ _ hS ?_⟩
        clear hK K
        refine MixH.takes [false, false, true, false, false, false, false, false, true] 1 (by kernel_rfl) (by kernel_rfl) (by decide) (by kernel_rfl) hS (fun K hK => ?_)
        simp only [Mix.pick]
        repeat (go_big_quiet_step (fail))
        refine wpQuiet_nil (hK _ ?_)
        clear hK K
        refine MixH.one [false, false, false, false, false, false, false, false, false, true] 0 9 _ rfl rfl (by kernel_rfl) (by kernel_rfl) (fun K hK => ?_)
        simp only [Mix.pick]
        go_wp2_with fail
        refine Calls.mono (QC.out) ?_
        rintro e5 w5 ⟨rfl, t5, k5⟩
        have b5 : Below w.heap.size w w5 := HC.out.2.1.trans (k5.below (fun q hq => by have := HBW.out; omega) HC.out.2.1.size)
        have HZ5 : Hid (TQ w5 P G ms t B (nxt (csOf ms) v) ∧ Below w.heap.size w w5) := ⟨by rw [HNX.out, ← HBB.out]; exact t5, b5⟩
        replace hS : QA w5 P G ms t := t5.qa
        clear t5 k5 b5
        go_wp2_with fail
        refine ⟨rfl, hK _ _ hS ?_⟩
        clear hK K
        refine MixH.done (by kernel_rfl) ?_
        clear hS QC
        go_wp2_with fail
        go_roundw
        case rel => exact ⟨nxt (csOf ms) v, ⟨HZ5.out.1.qa, HH.out.1.by', HH.out.1.ok⟩, HZ5.out.1.tb, HZ5.out.2, HNO.out, fun z hz => HR.out.2.2.2.2 z (.step v z HSB.out hz)⟩
        case measure => rw [mzW_eq HZ5.out.1.tb HK.out.2.2, mzW_eq HR.out.2.1 HK.out.2.2]; exact HMZ.out
set_option maxHeartbeats 3200000 in
set_option maxRecDepth 100000 in
theorem walk_peek (P G : Nat) (ms : List CM) (t : TN) (w : World) (h : QQ w P G ms t) : Calls Try.prog 46 #[.pointer (some ⟨P, 0, none⟩), .func (.func 48) #[.pointer (some ⟨P, 0, none⟩)] #[]] w fun e w' => e = .returned (.tuple #[.int .i64 (popN (csOf ms) t), .int .i64 (popC (csOf ms) t), .bool (anyR (csOf ms))]) ∧ Below w.heap.size w w' := by
  obtain ⟨n, hn⟩ : ∃ n, n = ms.length := ⟨_, rfl⟩
  have hl := h.len
  rw [← hn] at hl
  have HH : Hid (QQ w P G ms t ∧ n = ms.length ∧ (csOf ms).length = n) := ⟨h, hn, by rw [csOf_len, hn]⟩
  have QA1 : Hid _ := anyReady_any P G ms t w h.qa h.len.2
  obtain ⟨ab, hab⟩ : ∃ ab, anyR (csOf ms) = ab := ⟨_, rfl⟩
  have HAN : Hid (anyR (csOf ms) = ab) := hab
  rw [hab] at QA1
  have n0 : ((n : Int) == 0) = false := beq_eq_false_iff_ne.2 (by omega)
  clear h hn hab
  go_enter Try.func46, Try.ntmps46
  go_upto_region 1 with fail
  go_wp2_with fail
  refine Calls.mono QA1.out ?_
  rintro e1 w1 ⟨rfl, b1⟩
  have HB1 : Hid (QQ w1 P G ms t ∧ Below w.heap.size w w1) := ⟨HH.out.1.below b1, b1⟩
  clear b1 QA1
  cases ab with
  | false =>
    have HNO : Hid (popN (csOf ms) t = 0 ∧ popC (csOf ms) t = 0 ∧ popT (csOf ms) t = t ∧ popQ (csOf ms) t = csOf ms) := by
      unfold popN popC popT popQ
      rw [HAN.out]
      exact ⟨rfl, rfl, rfl, rfl⟩
    go_wp2_with fail
    go_ret3
    exact ⟨by rw [HNO.out.1, HNO.out.2.1, HAN.out]; rfl, HB1.out.2⟩
  | true =>
    obtain ⟨k, hk, hr⟩ := any_some HAN.out
    have HK : Hid (k < (csOf ms).length ∧ (cAt (csOf ms) k).rdy = true ∧ k < 8) := ⟨hk, hr, by have := HH.out.1.ok.len.2; omega⟩
    clear hk hr
    obtain ⟨Y, hY⟩ : ∃ Y, Y = w1.alloc (.cells (tnA tz) 102) := ⟨_, rfl⟩
    obtain ⟨B, hB⟩ : ∃ B, w1.heap.size = B := ⟨_, rfl⟩
    go_upto_region 3 with fail
    go_wp2_with (first | (refine wpList_mid_trn (.tmp 13) rfl P 1 t rfl HB1.out.1.qa.qb.tn rfl ?_) | (refine wpList_alloc_trn rfl rfl ?_) | (refine wpList_store_trn (.tmp 7) (.tmp 14) rfl rfl w1.heap.size tz t rfl rfl (trn_new w1 tz) rfl ?_))
    intro w2 h2 k2
    have HT2 : Hid (QQ w2 P G ms t ∧ TrnAt w2 B t ∧ Below w.heap.size w w2 ∧ w.heap.size ≤ B) := by
      have b0 : Below w1.heap.size w1 (w1.alloc (.cells (tnA tz) 102)) := (Below.refl _ _).alloc (Nat.le_refl _) _
      have b2 : Below w1.heap.size w1 w2 := b0.trans (k2.below (fun q hq => by omega) b0.size)
      have hs := HB1.out.2.size
      exact ⟨HB1.out.1.below b2, h2, bthen HB1.out.2 b2, by omega⟩
    clear hY hB h2 k2 Y HB1
    go_wp2_with fail
    go_loopw [] (fun wr => ∃ v : TN, Hid (QQ wr P G ms t ∧ TrnAt wr B v ∧ Below w.heap.size w wr ∧ QOk (csOf ms) v ∧ ∀ z, Run (csOf ms) v z → Run (csOf ms) t z)) (fun wr => mzW (csOf ms) k B wr)
    case atStart => exact ⟨t, HT2.out.1, HT2.out.2.1, HT2.out.2.2.1, HT2.out.1.ok, fun _ h => h⟩
    case round =>
      obtain ⟨v, HR⟩ := hrel
      obtain ⟨a, ha⟩ : ∃ a, v.at' = a := ⟨_, rfl⟩
      have hav : a < n := by rw [← ha, ← HH.out.2.2]; exact HR.out.2.2.2.1.tn.at'
      obtain ⟨m, hm⟩ : ∃ m, ms[a]? = some m := ⟨_, List.getElem?_eq_getElem (by rw [← HH.out.2.1]; exact hav)⟩
      have HM : Hid (v.at' = a ∧ ms[a]? = some m ∧ cAt (csOf ms) a = m.c ∧ a < n) := ⟨ha, hm, csOf_at hm, hav⟩
      have k0 : (0 : Int) ≤ (a : Int) := by omega
      have k1 : (a : Int) < (n : Int) := by omega
      have k2 : ((a : Int)).toNat = a := by omega
      have HBW : Hid (w.heap.size ≤ B) := HT2.out.2.2.2
      clear ha hm
      go_upto_region 4 with fail
      refine MixH.start (fun A => QA A P G ms t ∧ A.cell? ⟨B, 0, none⟩ = some (.int .i64 (a : Int))) (by kernel_rfl) ?_
      obtain ⟨wA, hwA⟩ : ∃ W_, W_ = wr.drew := ⟨_, rfl⟩
      have bdr : Below wr.heap.size wr wA := by rw [hwA]; exact (Below.refl _ _).drew
      have HA : Hid (TQ wA P G ms t B v ∧ Below w.heap.size w wA) := ⟨⟨HR.out.1.qa.below bdr, HR.out.2.1.below bdr⟩, bthen HR.out.2.2.1 bdr⟩
      have hS : QA wA P G ms t ∧ wA.cell? ⟨B, 0, none⟩ = some (.int .i64 (a : Int)) := ⟨HA.out.1.qa, (HA.out.1.tb.cell 0).trans (by rw [← HM.out.1]; rfl)⟩
      have QS : Hid _ := serves_any wA P G ms t B v HA.out.1 m (by rw [HM.out.1]; exact HM.out.2.1) (by have := HM.out; omega) (by
        have h1 := HR.out.2.2.2.1
        have h8 : v.at' < 8 := by have := HM.out; omega
        have hq := (HR.out.1.c (List.mem_of_getElem? HM.out.2.1)).li.q
        exact ⟨h1.tn.lo _ h8, h1.tn.up _ h8, by omega, by omega⟩)
      rw [HM.out.1] at QS
      obtain ⟨sb, hsb⟩ : ∃ sb, srv (csOf ms) v = sb := ⟨_, rfl⟩
      have HSB : Hid (srv (csOf ms) v = sb) := hsb
      rw [hsb] at QS
      clear hsb
      rw [← hwA]
      clear hwA bdr
      refine MixH.takes [true, true, true, false, true] 5 (by kernel_rfl) (by kernel_rfl) (by decide) (by kernel_rfl) hS (fun K hK => ?_)
      simp only [Mix.pick]
      repeat (go_big_quiet_step (fail))
      refine wpQuiet_nil (hK _ ?_)
      clear hK K
      refine MixH.take 4 3 _ (.slice (some ⟨G, 0, none⟩) n n) rfl (by kernel_rfl) (by kernel_rfl) (by kernel_rfl) (by kernel_rfl) (yields_cls (.tmp 17) rfl ⟨P, 0, none⟩ (.slice (some ⟨G, 0, none⟩) n n) rfl rfl (fun A hA => (hA.1.qb.cell 0).trans (by rw [HH.out.2.1]; rfl))) hS (fun a' ha => ?_)
      simp only [Act.put, List.setIfInBounds_toArray, List.set_cons_succ, List.set_cons_zero] at ha
      subst ha
      refine MixH.take 3 5 _ (.int .i64 (a : Int)) rfl (by kernel_rfl) (by kernel_rfl) (by kernel_rfl) (by kernel_rfl) (yields_int (.tmp 19) rfl ⟨B, 0, none⟩ (.int .i64 (a : Int)) rfl rfl (fun A hA => hA.2)) hS (fun a' ha => ?_)
      simp only [Act.put, List.setIfInBounds_toArray, List.set_cons_succ, List.set_cons_zero] at ha
      subst ha
      refine MixH.takes [false, false, false, false, false, false, true] 2 (by kernel_rfl) (by kernel_rfl) (by decide) (by kernel_rfl) hS (fun K hK => ?_)
      simp only [Mix.pick]
      repeat (go_big_quiet_step (fail))
      refine wpQuiet_nil (hK _ ?_)
      clear hK K
      refine MixH.one [false, false, false, false, false, false, false, true] 1 7 _ rfl rfl (by kernel_rfl) (by kernel_rfl) (fun K hK => ?_)
      simp only [Mix.pick]
      go_wp2_with fail
      refine Calls.mono (QS.out) ?_
      rintro e3 w3 ⟨rfl, t3, k3⟩
      have b3 : Below w.heap.size w w3 := HA.out.2.trans (k3.below (fun q hq => by have := HBW.out; omega) HA.out.2.size)
      have HZ3 : Hid (TQ w3 P G ms t B (gr (csOf ms) v) ∧ Below w.heap.size w w3) := ⟨t3, b3⟩
      replace hS : QA w3 P G ms t ∧ w3.cell? ⟨B, 0, none⟩ = some (.int .i64 (a : Int)) := ⟨t3.qa, (t3.tb.cell 0).trans (by rw [← HM.out.1, ← gr_at (csOf ms) v]; rfl)⟩
      clear t3 k3 b3
      go_wp2_with fail
      refine ⟨rfl, hK _ _ hS ?_⟩
      clear hK K
      refine MixH.takes [false, false, false, false, false, false, false, false, true] 0 (by kernel_rfl) (by kernel_rfl) (by decide) (by kernel_rfl) hS (fun K hK => ?_)
      simp only [Mix.pick]
      repeat (go_big_quiet_step (fail))
      refine wpQuiet_nil (hK _ ?_)
      clear hK K
      refine MixH.done (by kernel_rfl) ?_
      clear hS QS
      have HOKG : Hid (QOk (csOf ms) (gr (csOf ms) v)) := HR.out.2.2.2.1.gr
      have HGA : Hid ((gr (csOf ms) v).at' = a) := (gr_at _ _).trans HM.out.1
      cases sb with
      | true =>
        have HRUN : Hid (Run (csOf ms) t (gr (csOf ms) v)) := HR.out.2.2.2.2 _ (.stop v HSB.out)
        have he := HRUN.out.end' HH.out.1.ok
        rw [HGA.out, HM.out.2.2.1] at he
        obtain ⟨x, L, hL⟩ := rdy_hd he.2.1
        have HL : Hid (m.c.L = x :: L) := hL
        have HRD : Hid (m.c.rdy = true) := he.2.1
        have HDE : Hid (x.2 ≤ (gr (csOf ms) v).de (gr (csOf ms) v).at') := by have h1 := he.2.2.1; rw [hL] at h1; rw [HGA.out]; exact h1
        have HGV : Hid ((gr (csOf ms) v).gv = true) := he.2.2.2
        have HMG : Hid (ms[(gr (csOf ms) v).at']? = some m) := by show _ = _; rw [HGA.out]; exact HM.out.2.1
        have HYES : Hid (popN (csOf ms) t = x.1 ∧ popC (csOf ms) t = (a : Int)) := by
          unfold popN popC
          rw [HAN.out, HRUN.out.fin, HGA.out, HM.out.2.2.1, hL]
          exact ⟨rfl, rfl⟩
        clear he hL
        go_upto_region 7 with fail
        refine MixH.start (fun A => TrnAt A B (gr (csOf ms) v)) (by kernel_rfl) ?_
        obtain ⟨wB, hwA⟩ : ∃ W_, W_ = w3.drew := ⟨_, rfl⟩
        have bdr : Below w3.heap.size w3 wB := by rw [hwA]; exact (Below.refl _ _).drew
        have hS : TrnAt wB B (gr (csOf ms) v) := HZ3.out.1.tb.below bdr
        have HB : Hid (QQ wB P G ms t ∧ ¬ QB P G ms B ∧ Below w.heap.size w wB) := ⟨⟨HZ3.out.1.qa.below bdr, HH.out.1.by', HH.out.1.ok⟩, HZ3.out.1.nb, bthen HZ3.out.2 bdr⟩
        have QT : Hid _ := look_any P G ms t wB HB.out.1 (gr (csOf ms) v) m HMG.out x L HL.out
        rw [← hwA]
        clear hwA bdr
        refine MixH.takes [true, false, false, true] 6 (by kernel_rfl) (by kernel_rfl) (by decide) (by kernel_rfl) hS (fun K hK => ?_)
        simp only [Mix.pick]
        repeat (go_big_quiet_step (fail))
        refine wpQuiet_nil (hK _ ?_)
        clear hK K
        refine MixH.take 5 1 _ (.agg (tnA (gr (csOf ms) v))) rfl (by kernel_rfl) (by kernel_rfl) (by kernel_rfl) (by kernel_rfl) (yields_trn (.tmp 7) rfl B 0 (gr (csOf ms) v) rfl rfl (fun A hA => hA.all)) hS (fun a' ha => ?_)
        simp only [Act.put, List.setIfInBounds_toArray, List.set_cons_succ, List.set_cons_zero] at ha
        subst ha
        refine MixH.take 4 4 _ (.int .i64 (a : Int)) rfl (by kernel_rfl) (by kernel_rfl) (by kernel_rfl) (by kernel_rfl) (yields_int (.tmp 45) rfl ⟨B, 0, none⟩ (.int .i64 (a : Int)) rfl rfl (fun A hA => (TrnAt.cell hA 0).trans (by rw [← HGA.out]; rfl))) hS (fun a' ha => ?_)
        simp only [Act.put, List.setIfInBounds_toArray, List.set_cons_succ, List.set_cons_zero] at ha
        subst ha
        refine MixH.one [false, false, true] 3 2 _ rfl rfl (by kernel_rfl) (by kernel_rfl) (fun K hK => ?_)
        simp only [Mix.pick]
        go_wp2_with fail
        refine Calls.mono (QT.out) ?_
        rintro e6 w6 ⟨rfl, b6⟩
        have HF : Hid (Below w.heap.size w w6) := HB.out.2.2.trans (b6.mono HB.out.2.2.size)
        replace hS : TrnAt w6 B (gr (csOf ms) v) := hS.below b6
        clear b6
        go_wp2_with fail
        refine ⟨rfl, hK _ _ hS ?_⟩
        clear hK K
        refine MixH.takes [false, false, false, false, false, true, true, true] 0 (by kernel_rfl) (by kernel_rfl) (by decide) (by kernel_rfl) hS (fun K hK => ?_)
        simp only [Mix.pick]
        repeat (go_big_quiet_step (fail))
        refine wpQuiet_nil (hK _ ?_)
        clear hK K
        refine MixH.done (by kernel_rfl) ?_
        clear hS QT
        go_wp2_with fail
        go_ret3
        exact ⟨by rw [HYES.out.1, HYES.out.2, HAN.out]; rfl, HF.out⟩
      | false =>
        have HNX : Hid (nxt (csOf ms) v = ⟨(a + 1) % n, false, (lvT (csOf ms) (gr (csOf ms) v)).de⟩) := by
          show _ = _
          unfold nxt
          rw [HM.out.1, HH.out.2.2]
        have HNO : Hid (QOk (csOf ms) (nxt (csOf ms) v)) := HR.out.2.2.2.1.nxt HSB.out
        have HMZ : Hid (mz (csOf ms) k (nxt (csOf ms) v) < mz (csOf ms) k v) := mz_nxt HR.out.2.2.2.1 HK.out.1 HK.out.2.1 HSB.out
        go_upto_region 5 with fail
        refine MixH.start (fun A => QA A P G ms t ∧ A.cell? ⟨B, 0, none⟩ = some (.int .i64 (a : Int))) (by kernel_rfl) ?_
        obtain ⟨wB, hwA⟩ : ∃ W_, W_ = w3.drew := ⟨_, rfl⟩
        have bdr : Below w3.heap.size w3 wB := by rw [hwA]; exact (Below.refl _ _).drew
        have HB : Hid (TQ wB P G ms t B (gr (csOf ms) v) ∧ Below w.heap.size w wB) := ⟨HZ3.out.1.below bdr, bthen HZ3.out.2 bdr⟩
        have hS : QA wB P G ms t ∧ wB.cell? ⟨B, 0, none⟩ = some (.int .i64 (a : Int)) := ⟨HB.out.1.qa, (HB.out.1.tb.cell 0).trans (by rw [← HGA.out]; rfl)⟩
        have QL : Hid _ := leaveT_any wB P G ms t B (gr (csOf ms) v) HB.out.1 m (by rw [HGA.out]; exact HM.out.2.1) (by rw [HGA.out]; have := HM.out; omega)
        rw [HGA.out] at QL
        rw [← hwA]
        clear hwA bdr
        refine MixH.takes [true, true, true, false, true] 4 (by kernel_rfl) (by kernel_rfl) (by decide) (by kernel_rfl) hS (fun K hK => ?_)
        simp only [Mix.pick]
        repeat (go_big_quiet_step (fail))
        refine wpQuiet_nil (hK _ ?_)
        clear hK K
        refine MixH.take 3 3 _ (.slice (some ⟨G, 0, none⟩) n n) rfl (by kernel_rfl) (by kernel_rfl) (by kernel_rfl) (by kernel_rfl) (yields_cls (.tmp 26) rfl ⟨P, 0, none⟩ (.slice (some ⟨G, 0, none⟩) n n) rfl rfl (fun A hA => (hA.1.qb.cell 0).trans (by rw [HH.out.2.1]; rfl))) hS (fun a' ha => ?_)
        simp only [Act.put, List.setIfInBounds_toArray, List.set_cons_succ, List.set_cons_zero] at ha
        subst ha
        refine MixH.take 2 5 _ (.int .i64 (a : Int)) rfl (by kernel_rfl) (by kernel_rfl) (by kernel_rfl) (by kernel_rfl) (yields_int (.tmp 28) rfl ⟨B, 0, none⟩ (.int .i64 (a : Int)) rfl rfl (fun A hA => hA.2)) hS (fun a' ha => ?_)
        simp only [Act.put, List.setIfInBounds_toArray, List.set_cons_succ, List.set_cons_zero] at ha
        subst ha
        refine MixH.takes [false, false, false, false, false, false, true] 1 (by kernel_rfl) (by kernel_rfl) (by decide) (by kernel_rfl) hS (fun K hK => ?_)
        simp only [Mix.pick]
        repeat (go_big_quiet_step (fail))
        refine wpQuiet_nil (hK _ ?_)
        clear hK K
        refine MixH.one [false, false, false, false, false, false, false, true] 0 7 _ rfl rfl (by kernel_rfl) (by kernel_rfl) (fun K hK => ?_)
        simp only [Mix.pick]
        go_wp2_with fail
        refine Calls.mono (QL.out) ?_
        rintro e4 w4 ⟨rfl, t4, k4⟩
        have b4 : Below w.heap.size w w4 := HB.out.2.trans (k4.below (fun q hq => by have := HBW.out; omega) HB.out.2.size)
        have HZ4 : Hid (TQ w4 P G ms t B (lvT (csOf ms) (gr (csOf ms) v)) ∧ Below w.heap.size w w4 ∧ w4.cell? ⟨B, 0, none⟩ = some (.int .i64 (a : Int))) := ⟨t4, b4, (t4.tb.cell 0).trans (by rw [← HGA.out, ← lvT_at (csOf ms) (gr (csOf ms) v)]; rfl)⟩
        replace hS : QA w4 P G ms t ∧ w4.cell? ⟨B, 0, none⟩ = some (.int .i64 (a : Int)) := ⟨t4.qa, HZ4.out.2.2⟩
        clear t4 k4 b4
        go_wp2_with fail
        refine ⟨rfl, hK _ _ hS ?_⟩
        clear hK K
        refine MixH.done (by kernel_rfl) ?_
        clear hS QL
        go_upto_region 6 with fail
        obtain ⟨b, hb⟩ : ∃ b, b = (a + 1) % n := ⟨_, rfl⟩
        have hbT : Int.tmod ((a : Int) + 1) (n : Int) = (b : Int) := by rw [Int.tmod_eq_emod_of_nonneg (by omega), hb]; simp
        have wa : IntKind.i64.wrap ((a : Int) + 1) = (a : Int) + 1 := i64_s _ (by omega) (by omega)
        have HBB : Hid (b = (a + 1) % n) := hb
        clear hb
        refine MixH.start (fun A => QA A P G ms t) (by kernel_rfl) ?_
        obtain ⟨wC, hwA⟩ : ∃ W_, W_ = w4.drew := ⟨_, rfl⟩
        have bdr : Below w4.heap.size w4 wC := by rw [hwA]; exact (Below.refl _ _).drew
        have HC : Hid (TQ wC P G ms t B (lvT (csOf ms) (gr (csOf ms) v)) ∧ Below w.heap.size w wC ∧ wC.cell? ⟨B, 0, none⟩ = some (.int .i64 (a : Int))) := ⟨HZ4.out.1.below bdr, bthen HZ4.out.2.1 bdr, by have h1 := (HZ4.out.1.below bdr).tb.cell 0; have h2 := HZ4.out.1.tb.cell 0; rw [HZ4.out.2.2] at h2; rw [h1, h2]⟩
        have hS : QA wC P G ms t := HC.out.1.qa
        have QC : Hid _ := come_any wC P G ms t B (lvT (csOf ms) (gr (csOf ms) v)) HC.out.1 b
        rw [← hwA]
        clear hwA bdr
        refine MixH.takes [true, false, false, true, true, true] 6 (by kernel_rfl) (by kernel_rfl) (by decide) (by kernel_rfl) hS (fun K hK => ?_)
        simp only [Mix.pick]
        repeat (go_big_quiet_step (fail))
        refine wpQuiet_nil (hK _ ?_)
        clear hK K
        refine MixH.take 5 6 _ (.slice (some ⟨G, 0, none⟩) n n) rfl (by kernel_rfl) (by kernel_rfl) (by kernel_rfl) (by kernel_rfl) (yields_cls (.tmp 37) rfl ⟨P, 0, none⟩ (.slice (some ⟨G, 0, none⟩) n n) rfl rfl (fun A hA => (hA.qb.cell 0).trans (by rw [HH.out.2.1]; rfl))) hS (fun a' ha => ?_)
        simp only [Act.put, List.setIfInBounds_toArray, List.set_cons_succ, List.set_cons_zero] at ha
        subst ha
        refine MixH.takes [false, false, false, false, false, false, false, true] 4 (by kernel_rfl) (by kernel_rfl) (by decide) (by kernel_rfl) hS (fun K hK => ?_)
        simp only [Mix.pick]
        repeat (go_big_quiet_step (fail))
        refine wpQuiet_nil (hK _ ?_)
        clear hK K
        refine MixH.one [false, true] 3 1 _ rfl rfl (by kernel_rfl) (by kernel_rfl) (fun K hK => ?_)
        simp only [Mix.pick]
        have cc := HC.out.2.2
        go_wp2_with fail
        clear cc
        refine ⟨rfl, hK _ _ hS ?_⟩
        clear hK K
        refine MixH.takes [false, false, true, false, false, false, false, false, true] 1 (by kernel_rfl) (by kernel_rfl) (by decide) (by kernel_rfl) hS (fun K hK => ?_)
        simp only [Mix.pick]
        repeat (go_big_quiet_step (fail))
        refine wpQuiet_nil (hK _ ?_)
        clear hK K
        refine MixH.one [false, false, false, false, false, false, false, false, false, true] 0 9 _ rfl rfl (by kernel_rfl) (by kernel_rfl) (fun K hK => ?_)
        simp only [Mix.pick]
        go_wp2_with fail
        refine Calls.mono (QC.out) ?_
        rintro e5 w5 ⟨rfl, t5, k5⟩
        have b5 : Below w.heap.size w w5 := HC.out.2.1.trans (k5.below (fun q hq => by have := HBW.out; omega) HC.out.2.1.size)
        have HZ5 : Hid (TQ w5 P G ms t B (nxt (csOf ms) v) ∧ Below w.heap.size w w5) := ⟨by rw [HNX.out, ← HBB.out]; exact t5, b5⟩
        replace hS : QA w5 P G ms t := t5.qa
        clear t5 k5 b5
        go_wp2_with fail
        refine ⟨rfl, hK _ _ hS ?_⟩
        clear hK K
        refine MixH.done (by kernel_rfl) ?_
        clear hS QC
        go_wp2_with fail
        go_roundw
        case rel => exact ⟨nxt (csOf ms) v, ⟨HZ5.out.1.qa, HH.out.1.by', HH.out.1.ok⟩, HZ5.out.1.tb, HZ5.out.2, HNO.out, fun z hz => HR.out.2.2.2.2 z (.step v z HSB.out hz)⟩
        case measure => rw [mzW_eq HZ5.out.1.tb HK.out.2.2, mzW_eq HR.out.2.1 HK.out.2.2]; exact HMZ.out
set_option maxHeartbeats 1600000 in
set_option maxRecDepth 100000 in
theorem pop_any (P G : Nat) (ms : List CM) (t : TN) (w : World) (h : QQ w P G ms t) : Calls Try.prog 17 #[.pointer (some ⟨P, 0, none⟩)] w fun e w' => ∃ ms', e = .returned (.tuple #[.int .i64 (popN (csOf ms) t), .int .i64 (popC (csOf ms) t), .bool (anyR (csOf ms))]) ∧ QQ w' P G ms' (popT (csOf ms) t) ∧ csOf ms' = popQ (csOf ms) t ∧ Ch (QB P G ms) w w' ∧ ∀ q, QB P G ms' q → QB P G ms q := by
  have Q1 : Hid _ := walk_pop P G ms t w h
  obtain ⟨pn, hpn⟩ : ∃ pn, popN (csOf ms) t = pn := ⟨_, rfl⟩
  obtain ⟨pc, hpc⟩ : ∃ pc, popC (csOf ms) t = pc := ⟨_, rfl⟩
  obtain ⟨pb, hpb⟩ : ∃ pb, anyR (csOf ms) = pb := ⟨_, rfl⟩
  rw [hpn, hpc, hpb] at Q1 ⊢
  clear h hpn hpc hpb
  go_enter Try.func17, Try.ntmps17
  go_wp2_with fail
  refine Calls.mono Q1.out ?_
  rintro e w1 ⟨ms', rfl, q1, c1, k1, s1⟩
  have HB : Hid (QQ w1 P G ms' (popT (csOf ms) t) ∧ csOf ms' = popQ (csOf ms) t ∧ Ch (QB P G ms) w w1 ∧ ∀ q, QB P G ms' q → QB P G ms q) := ⟨q1, c1, k1, s1⟩
  clear q1 c1 k1 s1 Q1
  go_wp2_with fail
  go_ret3
  exact ⟨ms', rfl, HB.out⟩
set_option maxHeartbeats 1600000 in
set_option maxRecDepth 100000 in
theorem peek_any (P G : Nat) (ms : List CM) (t : TN) (w : World) (h : QQ w P G ms t) : Calls Try.prog 23 #[.pointer (some ⟨P, 0, none⟩)] w fun e w' => e = .returned (.tuple #[.int .i64 (popN (csOf ms) t), .int .i64 (popC (csOf ms) t), .bool (anyR (csOf ms))]) ∧ Below w.heap.size w w' := by
  have Q1 : Hid _ := walk_peek P G ms t w h
  obtain ⟨pn, hpn⟩ : ∃ pn, popN (csOf ms) t = pn := ⟨_, rfl⟩
  obtain ⟨pc, hpc⟩ : ∃ pc, popC (csOf ms) t = pc := ⟨_, rfl⟩
  obtain ⟨pb, hpb⟩ : ∃ pb, anyR (csOf ms) = pb := ⟨_, rfl⟩
  rw [hpn, hpc, hpb] at Q1 ⊢
  clear h hpn hpc hpb
  go_enter Try.func23, Try.ntmps23
  go_wp2_with fail
  refine Calls.mono Q1.out ?_
  rintro e w1 ⟨rfl, b1⟩
  have HB : Hid (Below w.heap.size w w1) := b1
  clear b1 Q1
  go_wp2_with fail
  go_ret3
  exact ⟨rfl, HB.out⟩
end Go.Proofs.Ytclkcpdghpaboaa
