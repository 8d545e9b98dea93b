/-
  Layer 18: the document's own answer: onward.
-/
import Derived.Test.YtcdbhkihbfjedaaQR2
namespace Go.Proofs.Ytcdbhkihbfjedaa
open Go.RowKit

/-- the reference's queue bears the turn -/
def RT (rs : List RL) (v : RQ) (t : TN) : Prop := v.at' = t.at' ∧ v.gv = t.gv ∧ ∀ i r, rs[i]? = some r → r.de = t.de i
theorem RT.put {rs : List RL} {v : RQ} {t : TN} {i : Nat} {r r' : RL} {d : Int} (h : RT rs v t) (hi : rs[i]? = some r) (hd : r'.de = d) : RT (rs.set i r') v ⟨t.at', t.gv, up t.de i d⟩ := by
  refine ⟨h.1, h.2.1, fun j y hy => ?_⟩
  show y.de = up t.de i d j
  by_cases e : j = i
  · subst e
    rw [List.getElem?_set_self (List.getElem?_eq_some_iff.1 hi).1] at hy
    cases hy
    rw [up_same, hd]
  · rw [List.getElem?_set_ne (fun x => e x.symm)] at hy
    rw [up_ne e]
    exact h.2.2 j y hy
theorem LK.chb {α : Type} {K : Nat} {cells : α → List Value} {e : TypeId} {w w' : World} {a : Option Addr} {L : List α} (h : LK K cells e w a L) {B : Nat} (k : Ch (fun q => q = B) w w') {cc : Array Value} {ty : TypeId} (hb : w.heap[B]? = some (.cells cc ty (0, 0))) (hne : ty ≠ e) : LK K cells e w' a L := h.keep (fun x c hx => by
  rw [k.block x (Array.getElem?_eq_some_iff.1 hx).1 (fun e1 => by
    subst e1
    rw [hb] at hx
    simp only [Option.some.injEq, Obj.cells.injEq] at hx
    exact hne hx.2.1)]
  exact hx)
theorem RS.chq {w w' : World} {v u : RQ} {rs : List RL} {B : Nat} (h : RS w v rs) (k : Ch (fun q => q = B) w w') (hb : RqvAt w B u) : RS w' v rs := ⟨h.lk.chb k hb (by decide), h.n, fun r hr => ⟨(h.it r hr).1.chb k hb (by decide), (h.it r hr).2⟩, h.cap, h.len⟩
theorem RlvAt.all {w : World} {O : Nat} {x : RL} (h : RlvAt w O x) : w.rangeAt O 0 (rlA x).toList := by
  have e := RlvAt.range h 0 (rlA x).size
  rwa [Nat.zero_add, Array.extract_size] at e
theorem held_at {c : CL} {x : Int × Int} {L : List (Int × Int)} (hL : c.L = x :: L) : hdS c.L = x.2 := by rw [hL]; rfl
theorem min_le {a b : Int} (h : ¬ b < a) : min a b = a := by omega
theorem min_gt {a b : Int} (h : b < a) : min a b = b := by omega
set_option maxHeartbeats 3200000 in
set_option maxRecDepth 100000 in
theorem onward_any (v : RQ) (rs : List RL) (u : TN) (w : World) (h : RS w v rs) (hT : RT rs v u) (hu : u.at' < rs.length) : Calls Try.prog 70 #[.agg (rqA v)] w fun e w' => ∃ v' rs', e = .returned (.agg (rqA v')) ∧ RS w' v' rs' ∧ csR rs' = csR rs ∧ RT rs' v' ⟨(u.at' + 1) % rs.length, false, (lvT (csR rs) u).de⟩ ∧ Below w.heap.size w w' := by
  obtain ⟨n, hn⟩ : ∃ n, n = rs.length := ⟨_, rfl⟩
  obtain ⟨a, ha⟩ : ∃ a, u.at' = a := ⟨_, rfl⟩
  obtain ⟨r, hr⟩ : ∃ r, rs[a]? = some r := ⟨_, List.getElem?_eq_getElem (by omega)⟩
  have hn8 : n ≤ 8 := by have := h.len; omega
  have han : a < n := by omega
  have HA : Hid (u.at' = a ∧ n = rs.length ∧ rs[a]? = some r ∧ RS w v rs ∧ RT rs v u ∧ v.n = n ∧ cAt (csR rs) a = r.c ∧ r.de = u.de a ∧ v.at' = a) := ⟨ha, hn, hr, h, hT, by rw [h.n, hn], csR_at hr, hT.2.2 a r hr, hT.1.trans ha⟩
  obtain ⟨b, hb⟩ : ∃ b, b = (a + 1) % n := ⟨_, rfl⟩
  have hbT : Int.tmod ((a : Int) + 1) (n : Int) = (b : Int) := by rw [Int.tmod_eq_emod_of_nonneg (by omega), hb]; simp
  have wa : IntKind.i64.wrap ((a : Int) + 1) = (a : Int) + 1 := i64_s _ (by omega) (by omega)
  have n0 : ((n : Int) == 0) = false := beq_eq_false_iff_ne.2 (by omega)
  have HBB : Hid (b = (u.at' + 1) % rs.length) := by show _ = _; rw [ha, ← hn]; exact hb
  have k0 : (0 : Int) ≤ (a : Int) := by omega
  have k1 : (a : Int) < (n : Int) := by omega
  have k2 : ((a : Int)).toNat = a := by omega
  obtain ⟨m, hm⟩ : ∃ m, m = r.c.L.length := ⟨_, rfl⟩
  have HM : Hid (r.c.L.length = m) := hm.symm
  obtain ⟨cs, hcs⟩ : ∃ cs, csR rs = cs := ⟨_, rfl⟩
  have HCS : Hid (csR rs = cs) := hcs
  clear h hT hu hn ha hr hb hm han hcs
  go_enter Try.func70, Try.ntmps70
  go_upto_region 1 with (first | (refine wpList_box_rqv (.tmp 0) rfl v rfl rfl ?_; intro B1 W1 hB1 hA1 b1) | (refine wpList_nil_rqv rfl rfl ?_; intro B2 W2 hB2 hA2 b2))
  have H2 : Hid (RqvAt W2 B1 v ∧ RqvAt W2 B2 qz ∧ Below w.heap.size w W2 ∧ w.heap.size = B1 ∧ B2 = B1 + 1 ∧ W2.heap.size = B2 + 1 ∧ RS W2 v rs) := ⟨hA1.below b2, hA2, bthen b1 b2, hB1.out.1, by have g1 := hB1.out; have g2 := hB2.out; omega, hB2.out.2, (HA.out.2.2.2.1.below b1).below b2⟩
  clear hB1 hA1 b1 hB2 hA2 b2
  obtain ⟨g, off, hla, hrg⟩ := H2.out.2.2.2.2.2.2.line HA.out.2.2.1
  have HRG : Hid (W2.rangeAt g (off + a * 8) (rlA r).toList) := hrg
  have c0 : W2.cell? ⟨B1, 0, none⟩ = some (.slice (some ⟨g, off, none⟩) n v.lc) := (H2.out.1.cell 0).trans (by rw [← hla, ← HA.out.2.2.2.2.2.1]; rfl)
  have c1 : W2.cell? ⟨B1, 1, none⟩ = some (.int .i64 (a : Int)) := (H2.out.1.cell 1).trans (by rw [← HA.out.2.2.2.2.2.2.2.2]; rfl)
  clear hla hrg
  go_wp2_with (first | (refine wpList_mid_rlv (.tmp 8) rfl g (off + a * 8) r rfl HRG.out rfl ?_) | (refine wpList_nil_rlv rfl rfl ?_; intro B3 X hB3 hX bX) | (refine wpList_store_rlv (.tmp 3) (.tmp 9) rfl rfl B3 rz r rfl rfl hX rfl ?_))
  intro x3 h3 k3
  go_upto_region 2 with fail
  have HO : Hid (w.heap.size = B1 ∧ B2 = B1 + 1 ∧ B3 = B2 + 1 ∧ B3 < x3.heap.size) := ⟨H2.out.2.2.2.1, H2.out.2.2.2.2.1, by have g1 := hB3.out; have g2 := H2.out; omega, h3.lt⟩
  have H3 : Hid (RlvAt x3 B3 r ∧ RIt x3 r ∧ RqvAt x3 B1 v ∧ RqvAt x3 B2 qz ∧ RS x3 v rs ∧ Below w.heap.size w x3) := by
    have hg := HO.out
    have b3 : Below w.heap.size w x3 := (bthen H2.out.2.2.1 bX).trans (k3.below (fun q hq => by omega) (bthen H2.out.2.2.1 bX).size)
    have s3 := HA.out.2.2.2.1.below b3
    exact ⟨h3, s3.it r (List.mem_of_getElem? HA.out.2.2.1), (H2.out.1.below bX).ch k3 (by omega), (H2.out.2.1.below bX).ch k3 (by omega), s3, b3⟩
  clear hB3 hX bX h3 k3 c0 c1 HRG H2
  cases hL : r.c.L with
  | nil =>
    have hm0 : m = 0 := by rw [← HM.out, hL]; rfl
    have q1 : decide (0 < m) = false := by rw [hm0]; rfl
    have q2 : decide ((0 : Int) < (m : Int)) = false := by rw [hm0]; rfl
    have HT : Hid (csR rs = cs ∧ RT rs v (lvT (csR rs) u)) := ⟨HCS.out, by
      have : lvT (csR rs) u = u := by unfold lvT; rw [HA.out.1, HA.out.2.2.2.2.2.2.1, held_em hL]; rfl
      rw [this]; exact HA.out.2.2.2.2.1⟩
    clear hL hm0
    refine MixH.start (fun A => RlvAt A B3 r ∧ RIt A r) (by kernel_rfl) ?_
    obtain ⟨wA, hwA⟩ : ∃ W_, W_ = x3.drew := ⟨_, rfl⟩
    have bdr : Below x3.heap.size x3 wA := by rw [hwA]; exact (Below.refl _ _).drew
    have hS : RlvAt wA B3 r ∧ RIt wA r := ⟨H3.out.1.below bdr, H3.out.2.1.below bdr⟩
    have HWA : Hid (Below x3.heap.size x3 wA) := bdr
    rw [← hwA]
    clear hwA bdr
    refine MixH.takes [true] 17 (by kernel_rfl) (by kernel_rfl) (by decide) (by kernel_rfl) hS (fun K hK => ?_)
    simp only [Mix.pick]
    repeat (go_big_quiet_step (fail))
    refine wpQuiet_nil (hK _ ?_)
    clear hK K
    refine MixH.take 16 1 _ (.slice r.la m r.lc) rfl (by kernel_rfl) (by kernel_rfl) (by kernel_rfl) (by kernel_rfl) (yields_ris (.tmp 10) rfl ⟨B3, 5, none⟩ (.slice r.la m r.lc) rfl rfl (fun A hA => (RlvAt.cell hA.1 5).trans (by rw [← HM.out]; rfl))) hS (fun a' ha => ?_)
    simp only [Act.put, List.setIfInBounds_toArray, List.set_cons_succ, List.set_cons_zero] at ha
    subst ha
    refine MixH.takes [false, false, true, true, true] 13 (by kernel_rfl) (by kernel_rfl) (by decide) (by kernel_rfl) hS (fun K hK => ?_)
    simp only [Mix.pick]
    repeat (go_big_quiet_step (fail))
    refine wpQuiet_nil (hK _ ?_)
    clear hK K
    refine MixH.take 12 5 _ (undef) rfl (by kernel_rfl) (by kernel_rfl) (by kernel_rfl) (by kernel_rfl) (.inr ⟨rfl, rfl⟩) hS (fun a' ha => ?_)
    simp only [Act.put, List.setIfInBounds_toArray, List.set_cons_succ, List.set_cons_zero] at ha
    subst ha
    refine MixH.take 11 6 _ (undef) rfl (by kernel_rfl) (by kernel_rfl) (by kernel_rfl) (by kernel_rfl) (.inr ⟨rfl, rfl⟩) hS (fun a' ha => ?_)
    simp only [Act.put, List.setIfInBounds_toArray, List.set_cons_succ, List.set_cons_zero] at ha
    subst ha
    refine MixH.takes [false, false, false, false, false, false, false, true, true, true, false, true] 7 (by kernel_rfl) (by kernel_rfl) (by decide) (by kernel_rfl) hS (fun K hK => ?_)
    simp only [Mix.pick]
    repeat (go_big_quiet_step (fail))
    refine wpQuiet_nil (hK _ ?_)
    clear hK K
    refine MixH.take 6 10 _ (undef) rfl (by kernel_rfl) (by kernel_rfl) (by kernel_rfl) (by kernel_rfl) (.inr ⟨rfl, rfl⟩) hS (fun a' ha => ?_)
    simp only [Act.put, List.setIfInBounds_toArray, List.set_cons_succ, List.set_cons_zero] at ha
    subst ha
    refine MixH.take 5 12 _ (undef) rfl (by kernel_rfl) (by kernel_rfl) (by kernel_rfl) (by kernel_rfl) (.inr ⟨rfl, rfl⟩) hS (fun a' ha => ?_)
    simp only [Act.put, List.setIfInBounds_toArray, List.set_cons_succ, List.set_cons_zero] at ha
    subst ha
    refine MixH.takes [false, false, false, false, false, false, false, false, false, false, false, false, false, true, true] 3 (by kernel_rfl) (by kernel_rfl) (by decide) (by kernel_rfl) hS (fun K hK => ?_)
    simp only [Mix.pick]
    repeat (go_big_quiet_step (fail))
    refine wpQuiet_nil (hK _ ?_)
    clear hK K
    refine MixH.take 2 15 _ (undef) rfl (by kernel_rfl) (by kernel_rfl) (by kernel_rfl) (by kernel_rfl) (.inr ⟨rfl, rfl⟩) hS (fun a' ha => ?_)
    simp only [Act.put, List.setIfInBounds_toArray, List.set_cons_succ, List.set_cons_zero] at ha
    subst ha
    refine MixH.takes [false, false, false, false, false, false, false, false, false, false, false, false, false, false, false, false, true, true] 0 (by kernel_rfl) (by kernel_rfl) (by decide) (by kernel_rfl) hS (fun K hK => ?_)
    simp only [Mix.pick]
    repeat (go_big_quiet_step (fail))
    refine wpQuiet_nil (hK _ ?_)
    clear hK K
    refine MixH.done (by kernel_rfl) ?_
    clear hS
    have H : Hid (RqvAt wA B1 v ∧ RqvAt wA B2 qz ∧ RS wA v rs ∧ Below w.heap.size w wA) := ⟨H3.out.2.2.1.below (HWA.out), H3.out.2.2.2.1.below (HWA.out), H3.out.2.2.2.2.1.below (HWA.out), H3.out.2.2.2.2.2.trans ((HWA.out).mono H3.out.2.2.2.2.2.size)⟩
    go_upto_region 5 with fail
    have hat : (v).at' = a := HT.out.2.1.trans ((lvT_at _ _).trans HA.out.1)
    have hvn : (v).n = n := by rw [H.out.2.2.1.n, ← csR_len, HT.out.1, ← HCS.out, csR_len]; exact HA.out.2.1.symm
    have c1 : wA.cell? ⟨B1, 1, none⟩ = some (.int .i64 (a : Int)) := (H.out.1.cell 1).trans (by rw [← hat]; rfl)
    have c0 : wA.cell? ⟨B1, 0, none⟩ = some (.slice (v).la n (v).lc) := (H.out.1.cell 0).trans (by rw [← hvn]; rfl)
    have z1 := H.out.1.fz 1
    obtain ⟨y1, hy1⟩ : ∃ y, y = wA.setCell ⟨B1, 1, none⟩ (.int .i64 (b : Int)) := ⟨_, rfl⟩
    have HY1 : Hid (wA.setCell ⟨B1, 1, none⟩ (.int .i64 (b : Int)) = y1) := hy1.symm
    have s1 : RqvAt y1 B1 ⟨(v).la, (v).n, (v).lc, b, (v).gv⟩ := by rw [hy1]; exact H.out.1.set 1 _ rfl
    have c2 : y1.cell? ⟨B1, 2, none⟩ = some (.bool (v).gv) := s1.cell 2
    have z2 := s1.fz 2
    obtain ⟨y2, hy2⟩ : ∃ y, y = y1.setCell ⟨B1, 2, none⟩ (.bool false) := ⟨_, rfl⟩
    have HY2 : Hid (y1.setCell ⟨B1, 2, none⟩ (.bool false) = y2) := hy2.symm
    have k12 : Ch (fun q => q = B1) wA y2 := by rw [hy2, hy1]; exact ((Ch.refl (fun q => q = B1) wA).set ⟨B1, 1, none⟩ _ rfl).set ⟨B1, 2, none⟩ _ rfl
    have b12 : Below w.heap.size w y2 := H.out.2.2.2.trans (k12.below (fun q hq => by have := HO.out; omega) H.out.2.2.2.size)
    have HV : Hid (RqvAt y2 B1 ⟨(v).la, (v).n, (v).lc, b, false⟩ ∧ RqvAt y2 B2 qz ∧ Below w.heap.size w y2 ∧ RS y2 (v) (rs)) := ⟨by rw [hy2]; exact s1.set 2 _ rfl, H.out.2.1.ch k12 (by have := HO.out; omega), b12, H.out.2.2.1.chq k12 H.out.1⟩
    clear hy1 hy2 s1 k12 b12 hat hvn
    go_upto_region 6 with fail
    rw [HY1.out]
    clear c0 c1 z1
    go_upto_region 7 with fail
    rw [HY2.out]
    clear c2 z2
    go_wp2_with (first | (refine wpList_load_rqv (.tmp 1) rfl B1 ⟨(v).la, (v).n, (v).lc, b, false⟩ rfl HV.out.1 rfl ?_) | (refine wpList_store_rqv (.tmp 2) (.tmp 48) rfl rfl B2 qz ⟨(v).la, (v).n, (v).lc, b, false⟩ rfl rfl HV.out.2.1 rfl ?_))
    intro y3 h3 k3
    have HF : Hid (RqvAt y3 B2 ⟨(v).la, (v).n, (v).lc, b, false⟩ ∧ RS y3 ⟨(v).la, (v).n, (v).lc, b, false⟩ (rs) ∧ Below w.heap.size w y3) := ⟨h3, (HV.out.2.2.2.chq k3 HV.out.2.1).turn rfl rfl rfl, HV.out.2.2.1.trans (k3.below (fun q hq => by have := HO.out; omega) HV.out.2.2.1.size)⟩
    clear h3 k3
    go_wp2_with fail
    refine bodyPost_ret (results_rqv rfl _ _ B2 _ rfl HF.out.1) rfl ?_
    exact ⟨_, rs, rfl, HF.out.2.1, HT.out.1.trans HCS.out.symm, ⟨HBB.out, rfl, HT.out.2.2.2⟩, HF.out.2.2⟩
  | cons x L =>
    have hm0 : 0 < m := by rw [← HM.out, hL]; simp
    have q1 : decide (0 < m) = true := decide_eq_true hm0
    have q2 : decide ((0 : Int) < (m : Int)) = true := decide_eq_true (by omega)
    have HL : Hid (r.c.L = x :: L) := hL
    have hi1 : (0 : Int) < (m : Int) := by omega
    obtain ⟨hb, hhb⟩ : ∃ hb, r.c.held = hb := ⟨_, rfl⟩
    have HHB : Hid (r.c.held = hb) := hhb
    clear hL hhb hm0
    cases hb with
    | false =>
      have HT : Hid (csR rs = cs ∧ RT rs v (lvT (csR rs) u)) := ⟨HCS.out, by
        have : lvT (csR rs) u = u := by unfold lvT; rw [HA.out.1, HA.out.2.2.2.2.2.2.1, HHB.out]; rfl
        rw [this]; exact HA.out.2.2.2.2.1⟩
      refine MixH.start (fun A => RlvAt A B3 r ∧ RIt A r) (by kernel_rfl) ?_
      obtain ⟨wA, hwA⟩ : ∃ W_, W_ = x3.drew := ⟨_, rfl⟩
      have bdr : Below x3.heap.size x3 wA := by rw [hwA]; exact (Below.refl _ _).drew
      have hS : RlvAt wA B3 r ∧ RIt wA r := ⟨H3.out.1.below bdr, H3.out.2.1.below bdr⟩
      have HWA : Hid (Below x3.heap.size x3 wA) := bdr
      have QH : Hid _ := heldR_any r wA hS.2 x L HL.out
      rw [HHB.out] at QH
      rw [← hwA]
      clear hwA bdr
      refine MixH.takes [true] 17 (by kernel_rfl) (by kernel_rfl) (by decide) (by kernel_rfl) hS (fun K hK => ?_)
      simp only [Mix.pick]
      repeat (go_big_quiet_step (fail))
      refine wpQuiet_nil (hK _ ?_)
      clear hK K
      refine MixH.take 16 1 _ (.slice r.la m r.lc) rfl (by kernel_rfl) (by kernel_rfl) (by kernel_rfl) (by kernel_rfl) (yields_ris (.tmp 10) rfl ⟨B3, 5, none⟩ (.slice r.la m r.lc) rfl rfl (fun A hA => (RlvAt.cell hA.1 5).trans (by rw [← HM.out]; rfl))) hS (fun a' ha => ?_)
      simp only [Act.put, List.setIfInBounds_toArray, List.set_cons_succ, List.set_cons_zero] at ha
      subst ha
      refine MixH.takes [false, false, true, true, true] 13 (by kernel_rfl) (by kernel_rfl) (by decide) (by kernel_rfl) hS (fun K hK => ?_)
      simp only [Mix.pick]
      repeat (go_big_quiet_step (fail))
      refine wpQuiet_nil (hK _ ?_)
      clear hK K
      refine MixH.take 12 5 _ (.agg (rlA r)) rfl (by kernel_rfl) (by kernel_rfl) (by kernel_rfl) (by kernel_rfl) (yields_rlv (.tmp 3) rfl B3 0 r rfl rfl (fun A hA => hA.1.all)) hS (fun a' ha => ?_)
      simp only [Act.put, List.setIfInBounds_toArray, List.set_cons_succ, List.set_cons_zero] at ha
      subst ha
      refine MixH.one [false, false, false, false, false, false, true] 11 6 _ rfl rfl (by kernel_rfl) (by kernel_rfl) (fun K hK => ?_)
      simp only [Mix.pick]
      go_wp2_with fail
      refine Calls.mono (QH.out) ?_
      rintro eh wh ⟨rfl, bh⟩
      replace hS : RlvAt wh B3 r ∧ RIt wh r := ⟨hS.1.below bh, hS.2.below bh⟩
      have HWH : Hid (Below x3.heap.size x3 wh ∧ RlvAt wh B3 r) := ⟨bthen HWA.out bh, hS.1⟩
      clear bh QH
      go_wp2_with fail
      refine ⟨rfl, hK _ _ hS ?_⟩
      clear hK K
      refine MixH.takes [false, false, false, false, false, false, false, true, true, true, false, true] 7 (by kernel_rfl) (by kernel_rfl) (by decide) (by kernel_rfl) hS (fun K hK => ?_)
      simp only [Mix.pick]
      repeat (go_big_quiet_step (fail))
      refine wpQuiet_nil (hK _ ?_)
      clear hK K
      refine MixH.take 6 10 _ (undef) rfl (by kernel_rfl) (by kernel_rfl) (by kernel_rfl) (by kernel_rfl) (.inr ⟨rfl, rfl⟩) hS (fun a' ha => ?_)
      simp only [Act.put, List.setIfInBounds_toArray, List.set_cons_succ, List.set_cons_zero] at ha
      subst ha
      refine MixH.take 5 12 _ (undef) rfl (by kernel_rfl) (by kernel_rfl) (by kernel_rfl) (by kernel_rfl) (.inr ⟨rfl, rfl⟩) hS (fun a' ha => ?_)
      simp only [Act.put, List.setIfInBounds_toArray, List.set_cons_succ, List.set_cons_zero] at ha
      subst ha
      refine MixH.takes [false, false, false, false, false, false, false, false, false, false, false, false, false, true, true] 3 (by kernel_rfl) (by kernel_rfl) (by decide) (by kernel_rfl) hS (fun K hK => ?_)
      simp only [Mix.pick]
      repeat (go_big_quiet_step (fail))
      refine wpQuiet_nil (hK _ ?_)
      clear hK K
      refine MixH.take 2 15 _ (undef) rfl (by kernel_rfl) (by kernel_rfl) (by kernel_rfl) (by kernel_rfl) (.inr ⟨rfl, rfl⟩) hS (fun a' ha => ?_)
      simp only [Act.put, List.setIfInBounds_toArray, List.set_cons_succ, List.set_cons_zero] at ha
      subst ha
      refine MixH.takes [false, false, false, false, false, false, false, false, false, false, false, false, false, false, false, false, true, true] 0 (by kernel_rfl) (by kernel_rfl) (by decide) (by kernel_rfl) hS (fun K hK => ?_)
      simp only [Mix.pick]
      repeat (go_big_quiet_step (fail))
      refine wpQuiet_nil (hK _ ?_)
      clear hK K
      refine MixH.done (by kernel_rfl) ?_
      clear hS
      have H : Hid (RqvAt wh B1 v ∧ RqvAt wh B2 qz ∧ RS wh v rs ∧ Below w.heap.size w wh) := ⟨H3.out.2.2.1.below (HWH.out.1), H3.out.2.2.2.1.below (HWH.out.1), H3.out.2.2.2.2.1.below (HWH.out.1), H3.out.2.2.2.2.2.trans ((HWH.out.1).mono H3.out.2.2.2.2.2.size)⟩
      go_upto_region 5 with fail
      have hat : (v).at' = a := HT.out.2.1.trans ((lvT_at _ _).trans HA.out.1)
      have hvn : (v).n = n := by rw [H.out.2.2.1.n, ← csR_len, HT.out.1, ← HCS.out, csR_len]; exact HA.out.2.1.symm
      have c1 : wh.cell? ⟨B1, 1, none⟩ = some (.int .i64 (a : Int)) := (H.out.1.cell 1).trans (by rw [← hat]; rfl)
      have c0 : wh.cell? ⟨B1, 0, none⟩ = some (.slice (v).la n (v).lc) := (H.out.1.cell 0).trans (by rw [← hvn]; rfl)
      have z1 := H.out.1.fz 1
      obtain ⟨y1, hy1⟩ : ∃ y, y = wh.setCell ⟨B1, 1, none⟩ (.int .i64 (b : Int)) := ⟨_, rfl⟩
      have HY1 : Hid (wh.setCell ⟨B1, 1, none⟩ (.int .i64 (b : Int)) = y1) := hy1.symm
      have s1 : RqvAt y1 B1 ⟨(v).la, (v).n, (v).lc, b, (v).gv⟩ := by rw [hy1]; exact H.out.1.set 1 _ rfl
      have c2 : y1.cell? ⟨B1, 2, none⟩ = some (.bool (v).gv) := s1.cell 2
      have z2 := s1.fz 2
      obtain ⟨y2, hy2⟩ : ∃ y, y = y1.setCell ⟨B1, 2, none⟩ (.bool false) := ⟨_, rfl⟩
      have HY2 : Hid (y1.setCell ⟨B1, 2, none⟩ (.bool false) = y2) := hy2.symm
      have k12 : Ch (fun q => q = B1) wh y2 := by rw [hy2, hy1]; exact ((Ch.refl (fun q => q = B1) wh).set ⟨B1, 1, none⟩ _ rfl).set ⟨B1, 2, none⟩ _ rfl
      have b12 : Below w.heap.size w y2 := H.out.2.2.2.trans (k12.below (fun q hq => by have := HO.out; omega) H.out.2.2.2.size)
      have HV : Hid (RqvAt y2 B1 ⟨(v).la, (v).n, (v).lc, b, false⟩ ∧ RqvAt y2 B2 qz ∧ Below w.heap.size w y2 ∧ RS y2 (v) (rs)) := ⟨by rw [hy2]; exact s1.set 2 _ rfl, H.out.2.1.ch k12 (by have := HO.out; omega), b12, H.out.2.2.1.chq k12 H.out.1⟩
      clear hy1 hy2 s1 k12 b12 hat hvn
      go_upto_region 6 with fail
      rw [HY1.out]
      clear c0 c1 z1
      go_upto_region 7 with fail
      rw [HY2.out]
      clear c2 z2
      go_wp2_with (first | (refine wpList_load_rqv (.tmp 1) rfl B1 ⟨(v).la, (v).n, (v).lc, b, false⟩ rfl HV.out.1 rfl ?_) | (refine wpList_store_rqv (.tmp 2) (.tmp 48) rfl rfl B2 qz ⟨(v).la, (v).n, (v).lc, b, false⟩ rfl rfl HV.out.2.1 rfl ?_))
      intro y3 h3 k3
      have HF : Hid (RqvAt y3 B2 ⟨(v).la, (v).n, (v).lc, b, false⟩ ∧ RS y3 ⟨(v).la, (v).n, (v).lc, b, false⟩ (rs) ∧ Below w.heap.size w y3) := ⟨h3, (HV.out.2.2.2.chq k3 HV.out.2.1).turn rfl rfl rfl, HV.out.2.2.1.trans (k3.below (fun q hq => by have := HO.out; omega) HV.out.2.2.1.size)⟩
      clear h3 k3
      go_wp2_with fail
      refine bodyPost_ret (results_rqv rfl _ _ B2 _ rfl HF.out.1) rfl ?_
      exact ⟨_, rs, rfl, HF.out.2.1, HT.out.1.trans HCS.out.symm, ⟨HBB.out, rfl, HT.out.2.2.2⟩, HF.out.2.2⟩
    | true =>
      obtain ⟨g2, off2, hla2, _, _⟩ := H3.out.2.1.head HL.out
      have HLA : Hid (r.la = some ⟨g2, off2, none⟩) := hla2
      clear hla2
      have HLV : Hid (lvT (csR rs) u = ⟨u.at', u.gv, up u.de a (min r.de x.2)⟩) := by
        show _ = _
        unfold lvT
        rw [HA.out.1, HA.out.2.2.2.2.2.2.1, HHB.out, held_at HL.out, HA.out.2.2.2.2.2.2.2.1]
        rfl
      by_cases hd : x.2 < r.de
      · have q3 : decide (x.2 < r.de) = true := decide_eq_true hd
        have HMIN : Hid (min r.de x.2 = x.2) := min_gt hd
        clear hd
        refine MixH.start (fun A => RlvAt A B3 r ∧ RIt A r) (by kernel_rfl) ?_
        obtain ⟨wA, hwA⟩ : ∃ W_, W_ = x3.drew := ⟨_, rfl⟩
        have bdr : Below x3.heap.size x3 wA := by rw [hwA]; exact (Below.refl _ _).drew
        have hS : RlvAt wA B3 r ∧ RIt wA r := ⟨H3.out.1.below bdr, H3.out.2.1.below bdr⟩
        have HWA : Hid (Below x3.heap.size x3 wA) := bdr
        have QH : Hid _ := heldR_any r wA hS.2 x L HL.out
        rw [HHB.out] at QH
        rw [← hwA]
        clear hwA bdr
        refine MixH.takes [true] 17 (by kernel_rfl) (by kernel_rfl) (by decide) (by kernel_rfl) hS (fun K hK => ?_)
        simp only [Mix.pick]
        repeat (go_big_quiet_step (fail))
        refine wpQuiet_nil (hK _ ?_)
        clear hK K
        refine MixH.take 16 1 _ (.slice r.la m r.lc) rfl (by kernel_rfl) (by kernel_rfl) (by kernel_rfl) (by kernel_rfl) (yields_ris (.tmp 10) rfl ⟨B3, 5, none⟩ (.slice r.la m r.lc) rfl rfl (fun A hA => (RlvAt.cell hA.1 5).trans (by rw [← HM.out]; rfl))) hS (fun a' ha => ?_)
        simp only [Act.put, List.setIfInBounds_toArray, List.set_cons_succ, List.set_cons_zero] at ha
        subst ha
        refine MixH.takes [false, false, true, true, true] 13 (by kernel_rfl) (by kernel_rfl) (by decide) (by kernel_rfl) hS (fun K hK => ?_)
        simp only [Mix.pick]
        repeat (go_big_quiet_step (fail))
        refine wpQuiet_nil (hK _ ?_)
        clear hK K
        refine MixH.take 12 5 _ (.agg (rlA r)) rfl (by kernel_rfl) (by kernel_rfl) (by kernel_rfl) (by kernel_rfl) (yields_rlv (.tmp 3) rfl B3 0 r rfl rfl (fun A hA => hA.1.all)) hS (fun a' ha => ?_)
        simp only [Act.put, List.setIfInBounds_toArray, List.set_cons_succ, List.set_cons_zero] at ha
        subst ha
        refine MixH.one [false, false, false, false, false, false, true] 11 6 _ rfl rfl (by kernel_rfl) (by kernel_rfl) (fun K hK => ?_)
        simp only [Mix.pick]
        go_wp2_with fail
        refine Calls.mono (QH.out) ?_
        rintro eh wh ⟨rfl, bh⟩
        replace hS : RlvAt wh B3 r ∧ RIt wh r := ⟨hS.1.below bh, hS.2.below bh⟩
        have HWH : Hid (Below x3.heap.size x3 wh ∧ RlvAt wh B3 r) := ⟨bthen HWA.out bh, hS.1⟩
        clear bh QH
        go_wp2_with fail
        refine ⟨rfl, hK _ _ hS ?_⟩
        clear hK K
        refine MixH.takes [false, false, false, false, false, false, false, true, true, true, false, true] 7 (by kernel_rfl) (by kernel_rfl) (by decide) (by kernel_rfl) hS (fun K hK => ?_)
        simp only [Mix.pick]
        repeat (go_big_quiet_step (fail))
        refine wpQuiet_nil (hK _ ?_)
        clear hK K
        refine MixH.take 6 10 _ (.int .i64 r.de) rfl (by kernel_rfl) (by kernel_rfl) (by kernel_rfl) (by kernel_rfl) (yields_int (.tmp 19) rfl ⟨B3, 6, none⟩ (.int .i64 r.de) rfl rfl (fun A hA => RlvAt.cell hA.1 6)) hS (fun a' ha => ?_)
        simp only [Act.put, List.setIfInBounds_toArray, List.set_cons_succ, List.set_cons_zero] at ha
        subst ha
        refine MixH.take 5 12 _ (.slice (some ⟨g2, off2, none⟩) m r.lc) rfl (by kernel_rfl) (by kernel_rfl) (by kernel_rfl) (by kernel_rfl) (yields_ris (.tmp 21) rfl ⟨B3, 5, none⟩ (.slice (some ⟨g2, off2, none⟩) m r.lc) rfl rfl (fun A hA => (RlvAt.cell hA.1 5).trans (by rw [← HM.out, ← HLA.out]; rfl))) hS (fun a' ha => ?_)
        simp only [Act.put, List.setIfInBounds_toArray, List.set_cons_succ, List.set_cons_zero] at ha
        subst ha
        refine MixH.takes [false, false, false, false, false, false, false, false, false, false, false, false, false, true, true] 3 (by kernel_rfl) (by kernel_rfl) (by decide) (by kernel_rfl) hS (fun K hK => ?_)
        simp only [Mix.pick]
        repeat (go_big_quiet_step (fail))
        refine wpQuiet_nil (hK _ ?_)
        clear hK K
        refine MixH.take 2 15 _ (.int .i64 x.2) rfl (by kernel_rfl) (by kernel_rfl) (by kernel_rfl) (by kernel_rfl) (yields_int (.tmp 24) rfl ⟨g2, off2, none⟩ (.int .i64 x.2) rfl rfl (fun A hA => by obtain ⟨b1, o1, h1, h2, _⟩ := hA.2.head HL.out; rw [HLA.out] at h1; cases h1; exact h2)) hS (fun a' ha => ?_)
        simp only [Act.put, List.setIfInBounds_toArray, List.set_cons_succ, List.set_cons_zero] at ha
        subst ha
        refine MixH.takes [false, false, false, false, false, false, false, false, false, false, false, false, false, false, false, false, true, true] 0 (by kernel_rfl) (by kernel_rfl) (by decide) (by kernel_rfl) hS (fun K hK => ?_)
        simp only [Mix.pick]
        repeat (go_big_quiet_step (fail))
        refine wpQuiet_nil (hK _ ?_)
        clear hK K
        refine MixH.done (by kernel_rfl) ?_
        clear hS
        have c5 : wh.cell? ⟨B3, 5, none⟩ = some (.slice (some ⟨g2, off2, none⟩) m r.lc) := (HWH.out.2.cell 5).trans (by rw [← HM.out, ← HLA.out]; rfl)
        have ci : wh.cell? ⟨g2, off2, none⟩ = some (.int .i64 x.2) := by obtain ⟨b1, o1, h1, h2, _⟩ := (H3.out.2.1.below HWH.out.1).head HL.out; rw [HLA.out] at h1; cases h1; exact h2
        have c6 : wh.cell? ⟨B3, 6, none⟩ = some (.int .i64 r.de) := HWH.out.2.cell 6
        have z6 := HWH.out.2.fz 6
        obtain ⟨r2, hr2⟩ : ∃ r2 : RL, r2 = ⟨r.c, x.2, r.la, r.lc⟩ := ⟨_, rfl⟩
        obtain ⟨y0, hy0⟩ : ∃ y, y = wh.setCell ⟨B3, 6, none⟩ (.int .i64 x.2) := ⟨_, rfl⟩
        have HY0 : Hid (wh.setCell ⟨B3, 6, none⟩ (.int .i64 x.2) = y0) := hy0.symm
        have HP : Hid (RlvAt y0 B3 r2 ∧ RqvAt y0 B1 v ∧ RqvAt y0 B2 qz ∧ RS y0 v rs ∧ RIt y0 r2 ∧ Below w.heap.size w y0 ∧ r2.c = r.c ∧ r2.de = x.2) := by
          have kk : Ch (fun q => q = B3) wh y0 := by rw [hy0]; exact (Ch.refl (fun q => q = B3) wh).set ⟨B3, 6, none⟩ _ rfl
          have hg := HO.out
          have bh : Below w.heap.size w wh := H3.out.2.2.2.2.2.trans (HWH.out.1.mono H3.out.2.2.2.2.2.size)
          have by0 : Below w.heap.size w y0 := bh.trans (kk.below (fun q hq => by omega) bh.size)
          have s0 := HA.out.2.2.2.1.below by0
          have i0 := s0.it r (List.mem_of_getElem? HA.out.2.2.1)
          refine ⟨by rw [hy0, hr2]; exact HWH.out.2.set 6 _ rfl, (H3.out.2.2.1.below HWH.out.1).ch kk (by omega), (H3.out.2.2.2.1.below HWH.out.1).ch kk (by omega), s0, by rw [hr2]; exact i0, by0, by rw [hr2], by rw [hr2]⟩
        clear hy0 hr2
        go_upto_region 4 with fail
        rw [HY0.out]
        clear c5 ci c6 z6
        have c1 : y0.cell? ⟨B1, 1, none⟩ = some (.int .i64 (a : Int)) := (HP.out.2.1.cell 1).trans (by rw [← HA.out.2.2.2.2.2.2.2.2]; rfl)
        have QP : Hid _ := put_any v rs a r2 y0 HP.out.2.2.2.1 (by have g1 := HA.out.2.1; omega) HP.out.2.2.2.2.1
        go_wp2_with (first | (refine wpList_load_rqv (.tmp 1) rfl B1 v rfl HP.out.2.1 rfl ?_) | (refine wpList_load_rlv (.tmp 3) rfl B3 r2 rfl HP.out.1 rfl ?_))
        refine Calls.mono QP.out ?_
        rintro e5 y1 ⟨la, lc, rfl, s5, b5⟩
        obtain ⟨v2, hv2⟩ : ∃ v2 : RQ, v2 = ⟨la, v.n, lc, v.at', v.gv⟩ := ⟨_, rfl⟩
        have HS5 : Hid (RS y1 v2 (rs.set a r2) ∧ RqvAt y1 B1 v ∧ RqvAt y1 B2 qz ∧ Below w.heap.size w y1 ∧ v2.at' = v.at' ∧ v2.gv = v.gv) := by rw [hv2]; exact ⟨s5, HP.out.2.1.below b5, HP.out.2.2.1.below b5, HP.out.2.2.2.2.2.1.trans (b5.mono HP.out.2.2.2.2.2.1.size), rfl, rfl⟩
        rw [← hv2]
        clear s5 b5 QP c1 hv2
        go_wp2_with (first | (refine wpList_store_rqv (.tmp 1) (.tmp 38) rfl rfl B1 v v2 rfl rfl HS5.out.2.1 rfl ?_))
        intro y6 h6 k6
        have H : Hid (RqvAt y6 B1 v2 ∧ RqvAt y6 B2 qz ∧ RS y6 v2 (rs.set a r2) ∧ Below w.heap.size w y6) := ⟨h6, HS5.out.2.2.1.ch k6 (by have := HO.out; omega), HS5.out.1.chq k6 HS5.out.2.1, HS5.out.2.2.2.1.trans (k6.below (fun q hq => by have := HO.out; omega) HS5.out.2.2.2.1.size)⟩
        have HT : Hid (csR (rs.set a r2) = cs ∧ RT (rs.set a r2) v2 (lvT (csR rs) u)) := by
          refine ⟨?_, ?_⟩
          · rw [← HCS.out, csR_set, HP.out.2.2.2.2.2.2.1]
            have h1 : (csR rs)[a]? = some r.c := by unfold csR; rw [List.getElem?_map, HA.out.2.2.1]; rfl
            apply List.ext_getElem?
            intro j
            by_cases e : j = a
            · subst e; rw [List.getElem?_set_self (List.getElem?_eq_some_iff.1 h1).1, h1]
            · rw [List.getElem?_set_ne (fun x => e x.symm)]
          · rw [HLV.out, HMIN.out]
            have h1 := HA.out.2.2.2.2.1.put HA.out.2.2.1 (r' := r2) (d := x.2) HP.out.2.2.2.2.2.2.2
            exact ⟨HS5.out.2.2.2.2.1.trans h1.1, HS5.out.2.2.2.2.2.trans h1.2.1, h1.2.2⟩
        clear h6 k6
        go_upto_region 5 with fail
        have hat : (v2).at' = a := HT.out.2.1.trans ((lvT_at _ _).trans HA.out.1)
        have hvn : (v2).n = n := by rw [H.out.2.2.1.n, ← csR_len, HT.out.1, ← HCS.out, csR_len]; exact HA.out.2.1.symm
        have c1 : y6.cell? ⟨B1, 1, none⟩ = some (.int .i64 (a : Int)) := (H.out.1.cell 1).trans (by rw [← hat]; rfl)
        have c0 : y6.cell? ⟨B1, 0, none⟩ = some (.slice (v2).la n (v2).lc) := (H.out.1.cell 0).trans (by rw [← hvn]; rfl)
        have z1 := H.out.1.fz 1
        obtain ⟨y1, hy1⟩ : ∃ y, y = y6.setCell ⟨B1, 1, none⟩ (.int .i64 (b : Int)) := ⟨_, rfl⟩
        have HY1 : Hid (y6.setCell ⟨B1, 1, none⟩ (.int .i64 (b : Int)) = y1) := hy1.symm
        have s1 : RqvAt y1 B1 ⟨(v2).la, (v2).n, (v2).lc, b, (v2).gv⟩ := by rw [hy1]; exact H.out.1.set 1 _ rfl
        have c2 : y1.cell? ⟨B1, 2, none⟩ = some (.bool (v2).gv) := s1.cell 2
        have z2 := s1.fz 2
        obtain ⟨y2, hy2⟩ : ∃ y, y = y1.setCell ⟨B1, 2, none⟩ (.bool false) := ⟨_, rfl⟩
        have HY2 : Hid (y1.setCell ⟨B1, 2, none⟩ (.bool false) = y2) := hy2.symm
        have k12 : Ch (fun q => q = B1) y6 y2 := by rw [hy2, hy1]; exact ((Ch.refl (fun q => q = B1) y6).set ⟨B1, 1, none⟩ _ rfl).set ⟨B1, 2, none⟩ _ rfl
        have b12 : Below w.heap.size w y2 := H.out.2.2.2.trans (k12.below (fun q hq => by have := HO.out; omega) H.out.2.2.2.size)
        have HV : Hid (RqvAt y2 B1 ⟨(v2).la, (v2).n, (v2).lc, b, false⟩ ∧ RqvAt y2 B2 qz ∧ Below w.heap.size w y2 ∧ RS y2 (v2) ((rs.set a r2))) := ⟨by rw [hy2]; exact s1.set 2 _ rfl, H.out.2.1.ch k12 (by have := HO.out; omega), b12, H.out.2.2.1.chq k12 H.out.1⟩
        clear hy1 hy2 s1 k12 b12 hat hvn
        go_upto_region 6 with fail
        rw [HY1.out]
        clear c0 c1 z1
        go_upto_region 7 with fail
        rw [HY2.out]
        clear c2 z2
        go_wp2_with (first | (refine wpList_load_rqv (.tmp 1) rfl B1 ⟨(v2).la, (v2).n, (v2).lc, b, false⟩ rfl HV.out.1 rfl ?_) | (refine wpList_store_rqv (.tmp 2) (.tmp 48) rfl rfl B2 qz ⟨(v2).la, (v2).n, (v2).lc, b, false⟩ rfl rfl HV.out.2.1 rfl ?_))
        intro y3 h3 k3
        have HF : Hid (RqvAt y3 B2 ⟨(v2).la, (v2).n, (v2).lc, b, false⟩ ∧ RS y3 ⟨(v2).la, (v2).n, (v2).lc, b, false⟩ ((rs.set a r2)) ∧ Below w.heap.size w y3) := ⟨h3, (HV.out.2.2.2.chq k3 HV.out.2.1).turn rfl rfl rfl, HV.out.2.2.1.trans (k3.below (fun q hq => by have := HO.out; omega) HV.out.2.2.1.size)⟩
        clear h3 k3
        go_wp2_with fail
        refine bodyPost_ret (results_rqv rfl _ _ B2 _ rfl HF.out.1) rfl ?_
        exact ⟨_, (rs.set a r2), rfl, HF.out.2.1, HT.out.1.trans HCS.out.symm, ⟨HBB.out, rfl, HT.out.2.2.2⟩, HF.out.2.2⟩
      · have q3 : decide (x.2 < r.de) = false := decide_eq_false hd
        have HT : Hid (csR rs = cs ∧ RT rs v (lvT (csR rs) u)) := ⟨HCS.out, by
          rw [HLV.out, min_le hd, HA.out.2.2.2.2.2.2.2.1]
          refine ⟨HA.out.2.2.2.2.1.1, HA.out.2.2.2.2.1.2.1, fun j y hy => ?_⟩
          show y.de = up u.de a (u.de a) j
          have h1 := HA.out.2.2.2.2.1.2.2 j y hy
          by_cases e : j = a
          · subst e; rw [up_same]; exact h1
          · rw [up_ne e]; exact h1⟩
        clear hd
        refine MixH.start (fun A => RlvAt A B3 r ∧ RIt A r) (by kernel_rfl) ?_
        obtain ⟨wA, hwA⟩ : ∃ W_, W_ = x3.drew := ⟨_, rfl⟩
        have bdr : Below x3.heap.size x3 wA := by rw [hwA]; exact (Below.refl _ _).drew
        have hS : RlvAt wA B3 r ∧ RIt wA r := ⟨H3.out.1.below bdr, H3.out.2.1.below bdr⟩
        have HWA : Hid (Below x3.heap.size x3 wA) := bdr
        have QH : Hid _ := heldR_any r wA hS.2 x L HL.out
        rw [HHB.out] at QH
        rw [← hwA]
        clear hwA bdr
        refine MixH.takes [true] 17 (by kernel_rfl) (by kernel_rfl) (by decide) (by kernel_rfl) hS (fun K hK => ?_)
        simp only [Mix.pick]
        repeat (go_big_quiet_step (fail))
        refine wpQuiet_nil (hK _ ?_)
        clear hK K
        refine MixH.take 16 1 _ (.slice r.la m r.lc) rfl (by kernel_rfl) (by kernel_rfl) (by kernel_rfl) (by kernel_rfl) (yields_ris (.tmp 10) rfl ⟨B3, 5, none⟩ (.slice r.la m r.lc) rfl rfl (fun A hA => (RlvAt.cell hA.1 5).trans (by rw [← HM.out]; rfl))) hS (fun a' ha => ?_)
        simp only [Act.put, List.setIfInBounds_toArray, List.set_cons_succ, List.set_cons_zero] at ha
        subst ha
        refine MixH.takes [false, false, true, true, true] 13 (by kernel_rfl) (by kernel_rfl) (by decide) (by kernel_rfl) hS (fun K hK => ?_)
        simp only [Mix.pick]
        repeat (go_big_quiet_step (fail))
        refine wpQuiet_nil (hK _ ?_)
        clear hK K
        refine MixH.take 12 5 _ (.agg (rlA r)) rfl (by kernel_rfl) (by kernel_rfl) (by kernel_rfl) (by kernel_rfl) (yields_rlv (.tmp 3) rfl B3 0 r rfl rfl (fun A hA => hA.1.all)) hS (fun a' ha => ?_)
        simp only [Act.put, List.setIfInBounds_toArray, List.set_cons_succ, List.set_cons_zero] at ha
        subst ha
        refine MixH.one [false, false, false, false, false, false, true] 11 6 _ rfl rfl (by kernel_rfl) (by kernel_rfl) (fun K hK => ?_)
        simp only [Mix.pick]
        go_wp2_with fail
        refine Calls.mono (QH.out) ?_
        rintro eh wh ⟨rfl, bh⟩
        replace hS : RlvAt wh B3 r ∧ RIt wh r := ⟨hS.1.below bh, hS.2.below bh⟩
        have HWH : Hid (Below x3.heap.size x3 wh ∧ RlvAt wh B3 r) := ⟨bthen HWA.out bh, hS.1⟩
        clear bh QH
        go_wp2_with fail
        refine ⟨rfl, hK _ _ hS ?_⟩
        clear hK K
        refine MixH.takes [false, false, false, false, false, false, false, true, true, true, false, true] 7 (by kernel_rfl) (by kernel_rfl) (by decide) (by kernel_rfl) hS (fun K hK => ?_)
        simp only [Mix.pick]
        repeat (go_big_quiet_step (fail))
        refine wpQuiet_nil (hK _ ?_)
        clear hK K
        refine MixH.take 6 10 _ (.int .i64 r.de) rfl (by kernel_rfl) (by kernel_rfl) (by kernel_rfl) (by kernel_rfl) (yields_int (.tmp 19) rfl ⟨B3, 6, none⟩ (.int .i64 r.de) rfl rfl (fun A hA => RlvAt.cell hA.1 6)) hS (fun a' ha => ?_)
        simp only [Act.put, List.setIfInBounds_toArray, List.set_cons_succ, List.set_cons_zero] at ha
        subst ha
        refine MixH.take 5 12 _ (.slice (some ⟨g2, off2, none⟩) m r.lc) rfl (by kernel_rfl) (by kernel_rfl) (by kernel_rfl) (by kernel_rfl) (yields_ris (.tmp 21) rfl ⟨B3, 5, none⟩ (.slice (some ⟨g2, off2, none⟩) m r.lc) rfl rfl (fun A hA => (RlvAt.cell hA.1 5).trans (by rw [← HM.out, ← HLA.out]; rfl))) hS (fun a' ha => ?_)
        simp only [Act.put, List.setIfInBounds_toArray, List.set_cons_succ, List.set_cons_zero] at ha
        subst ha
        refine MixH.takes [false, false, false, false, false, false, false, false, false, false, false, false, false, true, true] 3 (by kernel_rfl) (by kernel_rfl) (by decide) (by kernel_rfl) hS (fun K hK => ?_)
        simp only [Mix.pick]
        repeat (go_big_quiet_step (fail))
        refine wpQuiet_nil (hK _ ?_)
        clear hK K
        refine MixH.take 2 15 _ (.int .i64 x.2) rfl (by kernel_rfl) (by kernel_rfl) (by kernel_rfl) (by kernel_rfl) (yields_int (.tmp 24) rfl ⟨g2, off2, none⟩ (.int .i64 x.2) rfl rfl (fun A hA => by obtain ⟨b1, o1, h1, h2, _⟩ := hA.2.head HL.out; rw [HLA.out] at h1; cases h1; exact h2)) hS (fun a' ha => ?_)
        simp only [Act.put, List.setIfInBounds_toArray, List.set_cons_succ, List.set_cons_zero] at ha
        subst ha
        refine MixH.takes [false, false, false, false, false, false, false, false, false, false, false, false, false, false, false, false, true, true] 0 (by kernel_rfl) (by kernel_rfl) (by decide) (by kernel_rfl) hS (fun K hK => ?_)
        simp only [Mix.pick]
        repeat (go_big_quiet_step (fail))
        refine wpQuiet_nil (hK _ ?_)
        clear hK K
        refine MixH.done (by kernel_rfl) ?_
        clear hS
        have H : Hid (RqvAt wh B1 v ∧ RqvAt wh B2 qz ∧ RS wh v rs ∧ Below w.heap.size w wh) := ⟨H3.out.2.2.1.below (HWH.out.1), H3.out.2.2.2.1.below (HWH.out.1), H3.out.2.2.2.2.1.below (HWH.out.1), H3.out.2.2.2.2.2.trans ((HWH.out.1).mono H3.out.2.2.2.2.2.size)⟩
        go_upto_region 5 with fail
        have hat : (v).at' = a := HT.out.2.1.trans ((lvT_at _ _).trans HA.out.1)
        have hvn : (v).n = n := by rw [H.out.2.2.1.n, ← csR_len, HT.out.1, ← HCS.out, csR_len]; exact HA.out.2.1.symm
        have c1 : wh.cell? ⟨B1, 1, none⟩ = some (.int .i64 (a : Int)) := (H.out.1.cell 1).trans (by rw [← hat]; rfl)
        have c0 : wh.cell? ⟨B1, 0, none⟩ = some (.slice (v).la n (v).lc) := (H.out.1.cell 0).trans (by rw [← hvn]; rfl)
        have z1 := H.out.1.fz 1
        obtain ⟨y1, hy1⟩ : ∃ y, y = wh.setCell ⟨B1, 1, none⟩ (.int .i64 (b : Int)) := ⟨_, rfl⟩
        have HY1 : Hid (wh.setCell ⟨B1, 1, none⟩ (.int .i64 (b : Int)) = y1) := hy1.symm
        have s1 : RqvAt y1 B1 ⟨(v).la, (v).n, (v).lc, b, (v).gv⟩ := by rw [hy1]; exact H.out.1.set 1 _ rfl
        have c2 : y1.cell? ⟨B1, 2, none⟩ = some (.bool (v).gv) := s1.cell 2
        have z2 := s1.fz 2
        obtain ⟨y2, hy2⟩ : ∃ y, y = y1.setCell ⟨B1, 2, none⟩ (.bool false) := ⟨_, rfl⟩
        have HY2 : Hid (y1.setCell ⟨B1, 2, none⟩ (.bool false) = y2) := hy2.symm
        have k12 : Ch (fun q => q = B1) wh y2 := by rw [hy2, hy1]; exact ((Ch.refl (fun q => q = B1) wh).set ⟨B1, 1, none⟩ _ rfl).set ⟨B1, 2, none⟩ _ rfl
        have b12 : Below w.heap.size w y2 := H.out.2.2.2.trans (k12.below (fun q hq => by have := HO.out; omega) H.out.2.2.2.size)
        have HV : Hid (RqvAt y2 B1 ⟨(v).la, (v).n, (v).lc, b, false⟩ ∧ RqvAt y2 B2 qz ∧ Below w.heap.size w y2 ∧ RS y2 (v) (rs)) := ⟨by rw [hy2]; exact s1.set 2 _ rfl, H.out.2.1.ch k12 (by have := HO.out; omega), b12, H.out.2.2.1.chq k12 H.out.1⟩
        clear hy1 hy2 s1 k12 b12 hat hvn
        go_upto_region 6 with fail
        rw [HY1.out]
        clear c0 c1 z1
        go_upto_region 7 with fail
        rw [HY2.out]
        clear c2 z2
        go_wp2_with (first | (refine wpList_load_rqv (.tmp 1) rfl B1 ⟨(v).la, (v).n, (v).lc, b, false⟩ rfl HV.out.1 rfl ?_) | (refine wpList_store_rqv (.tmp 2) (.tmp 48) rfl rfl B2 qz ⟨(v).la, (v).n, (v).lc, b, false⟩ rfl rfl HV.out.2.1 rfl ?_))
        intro y3 h3 k3
        have HF : Hid (RqvAt y3 B2 ⟨(v).la, (v).n, (v).lc, b, false⟩ ∧ RS y3 ⟨(v).la, (v).n, (v).lc, b, false⟩ (rs) ∧ Below w.heap.size w y3) := ⟨h3, (HV.out.2.2.2.chq k3 HV.out.2.1).turn rfl rfl rfl, HV.out.2.2.1.trans (k3.below (fun q hq => by have := HO.out; omega) HV.out.2.2.1.size)⟩
        clear h3 k3
        go_wp2_with fail
        refine bodyPost_ret (results_rqv rfl _ _ B2 _ rfl HF.out.1) rfl ?_
        exact ⟨_, rs, rfl, HF.out.2.1, HT.out.1.trans HCS.out.symm, ⟨HBB.out, rfl, HT.out.2.2.2⟩, HF.out.2.2⟩

end Go.Proofs.Ytcdbhkihbfjedaa
