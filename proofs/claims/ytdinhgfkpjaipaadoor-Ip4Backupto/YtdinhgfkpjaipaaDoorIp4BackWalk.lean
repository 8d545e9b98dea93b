/-
  Ip4Back: the walk.
-/
import Derived.Test.YtdinhgfkpjaipaaDoorI4Start2
import Derived.Test.YtdinhgfkpjaipaaDoorI4Clone
namespace Go.Proofs.YtdinhgfkpjaipaaDoor
open Go.RowKit
open I4 (H4)

theorem yields_h4 {ops : Array Oper} {o : Oper} {a : Act} {S : World → Prop} (x : Operand) (ho : o.op = .load 28 x) (O : Nat) (h : H4) (ol dl : Value) (hx : a.eval x = .pointer (some ⟨O, 0, none⟩)) (hw : Region.wanted o (yielded ops a.tmps) = true) (hS : ∀ w, S w → H4At w O h ol dl) : YieldsIf Tryd.prog ops S o (.agg (h4C h ol dl)) a :=
  yields_box _ x ho ⟨O, 0, none⟩ _ hx hw (fun w hb => run_loadVar_row w O _ 28 (h4C h ol dl) _ _ (hS w hb) Tryd.underlying28 rfl Tryd.sizeH4)
theorem canon_serB (h : H4) (m : I4.May h) : canon (I4.ser h) = true := by
  unfold canon
  rw [decide_eq_true ((I4.pE_zero _).2 (I4.ser_taken h m)), decide_eq_true (I4.ser_eqv (I4.ser_eq h m))]
  rfl
set_option maxHeartbeats 6400000 in
set_option maxRecDepth 100000 in
theorem ip4Back.walk (w : World) (hw : Wid w) (h : H4) (la : Option Addr) (ln lc : Nat) (os : List OpV) (da : Option Addr) (n c : Nat) (k : H4Ok w h la ln lc os da n c) (sm : H4Sm ln os n) :
    Calls Tryd.prog 7 #[.agg (h4C h (.slice la ln lc) (.slice da n c))] w fun e w' => e = .returned (.bool true) ∧ Below w.heap.size w w' := by
  obtain ⟨W, hW⟩ : ∃ W, W = w.alloc (.cells (h4C h (.slice la ln lc) (.slice da n c)) 28) := ⟨_, rfl⟩
  obtain ⟨O, hO⟩ : ∃ O, O = w.heap.size := ⟨_, rfl⟩
  have bel : Below w.heap.size w W := by rw [hW]; exact (Below.refl _ _).alloc (Nat.le_refl _) _
  have HB : Hid (H4At W O h (.slice la ln lc) (.slice da n c)) := by rw [hW, hO]; exact h4At_new _ _ _ _
  obtain ⟨C, hC⟩ : ∃ C, C = h4C h (.slice la ln lc) (.slice da n c) := ⟨_, rfl⟩
  have HW : Hid (w.alloc (.cells C 28) = W) := by rw [hC]; exact hW.symm
  have HO : Hid (w.heap.size = O) := hO.symm
  rw [← hC]
  have HK : Hid (H4Ok w h la ln lc os da n c) := k
  have HSM : Hid (H4Sm ln os n) := sm
  have HWID : Hid (∀ A, Below w.heap.size w A → Wid A) := fun A hA => hw.old hA
  have QS : Hid _ := started_any W (hw.old bel)
  obtain ⟨E, hR⟩ : ∃ E, E = I4.chk h := ⟨_, rfl⟩
  have HR : Hid (E = I4.chk h) := hR
  clear hW hC hO k hw hR sm
  go_enter Tryd.func7, Tryd.ntmps7
  go_upto_region 1 with fail
  rw [HW.out, HO.out]
  go_wp2_with fail
  refine Calls.mono QS.out ?_
  rintro e w1 ⟨rfl, hb1⟩
  have bel1 := bthen bel hb1
  have HB1 : Hid (H4At w1 O h (.slice la ln lc) (.slice da n c)) := H4At.below HB.out hb1
  have QR : Hid _ := clone_any h la ln lc os da n c w1 (HK.out.old bel1) HSM.out.ln HSM.out.n HSM.out.d
  clear QS hb1 HB HW bel
  go_wp2_with (first | (refine wpList_load_h4 _ rfl O h (.slice la ln lc) (.slice da n c) rfl HB1.out rfl ?_))
  refine Calls.mono QR.out ?_
  rintro e w2 ⟨lb, mc, db, dc, rfl, hb2, ps, hk2⟩
  have bel2 := bthen bel1 hb2
  have HB2 : Hid (H4At w2 O h (.slice la ln lc) (.slice da n c)) := H4At.below HB1.out hb2
  clear QR hb2 HB1 bel1
  go_wp2_with (first | (refine wpList_alloc_h4 rfl rfl ?_) | (refine wpList_store_h4 (.tmp 4) (.tmp 11) rfl rfl w2.heap.size h4z h nilS nilS (.slice lb ln mc) (.slice db n dc) rfl rfl rfl rfl (h4At_new _ _ _ _) rfl ?_))
  intro w3 hP3 k3
  have sb3 := stored_below k3
  have bel3 := bthen bel2 sb3
  obtain ⟨O2, hO2⟩ : ∃ O2, O2 = w2.heap.size := ⟨_, rfl⟩
  rw [← hO2] at hP3 ⊢
  have HP3 : Hid (H4At w3 O2 h (.slice lb ln mc) (.slice db n dc)) := hP3
  have HB3 : Hid (H4At w3 O h (.slice la ln lc) (.slice da n c)) := H4At.below HB2.out sb3
  have HK3 : Hid (H4Ok w3 h lb ln mc ps db n dc) := hk2.old sb3
  have QR : Hid _ := serialise_any h la ln lc os da n c w3 (HWID.out w3 bel3) (HK.out.old bel3)
  rw [← HR.out] at QR
  clear hP3 k3 sb3 hO2 hk2 HB2 bel2
  go_wp2_with (first | (refine wpList_load_h4 _ rfl O h (.slice la ln lc) (.slice da n c) rfl HB3.out rfl ?_))
  refine Calls.mono QR.out ?_
  rintro e w4 ⟨v, rfl, hb4, hs⟩
  have bel4 := bthen bel3 hb4
  have HB4 : Hid (H4At w4 O h (.slice la ln lc) (.slice da n c)) := H4At.below HB3.out hb4
  have HP4 : Hid (H4At w4 O2 h (.slice lb ln mc) (.slice db n dc)) := H4At.below HP3.out hb4
  have HK4 : Hid (H4Ok w4 h lb ln mc ps db n dc) := HK3.out.old hb4
  have HSR : Hid (SerRes w3 h v w4) := hs
  obtain ⟨va, vn, vc, hv⟩ : ∃ va vn vc, v = .slice va vn vc := by
    rcases hs with ⟨_, g, rfl, _⟩ | ⟨_, rfl⟩
    · exact ⟨_, _, _, rfl⟩
    · exact ⟨_, _, _, rfl⟩
  subst hv
  clear QR hb4 HB3 HP3 HK3 bel3 hs
  go_upto_region 4 with fail
  go_wp2
  refine MixH.start (fun x => H4At x O h (.slice la ln lc) (.slice da n c)) (by kernel_rfl) ?_
  obtain ⟨wA, hwA⟩ : ∃ wA, wA = w4.drew := ⟨_, rfl⟩
  have bA : Below w4.heap.size w4 wA := by rw [hwA]; exact (Below.refl _ _).drew
  have belA := bthen bel4 bA
  have hS : H4At wA O h (.slice la ln lc) (.slice da n c) := H4At.below HB4.out bA
  have HPA : Hid (H4At wA O2 h (.slice lb ln mc) (.slice db n dc)) := H4At.below HP4.out bA
  have HKA : Hid (H4Ok wA h lb ln mc ps db n dc) := HK4.out.old bA
  have HSRA : Hid (SerRes w3 h (.slice va vn vc) wA) := by
    rcases HSR.out with ⟨h0, g, e1, ho⟩ | h
    · exact .inl ⟨h0, g, e1, (Ch.ofBelow (S := fun _ => False) bA).owns ho (fun _ _ => id)⟩
    · exact .inr h
  rw [← hwA]
  clear hwA bA HB4 HP4 HK4 HSR bel4
  refine MixH.takes [true, true, true, true] 6 (by kernel_rfl) (by kernel_rfl) (by decide) (by kernel_rfl) hS (fun K hK => ?_)
  simp only [Mix.pick]
  repeat (go_big_quiet_step (fail))
  refine wpQuiet_nil (hK _ ?_)
  clear hK K
  refine MixH.take 5 5 _ (.agg (h4C h (.slice la ln lc) (.slice da n c))) rfl (by kernel_rfl) (by kernel_rfl) (by kernel_rfl) (by kernel_rfl) (yields_h4 (.tmp 1) rfl O h (.slice la ln lc) (.slice da n c) rfl rfl (fun _ hb => hb)) hS (fun a' ha => ?_)
  simp only [Act.put, List.setIfInBounds_toArray, List.set_cons_succ, List.set_cons_zero] at ha
  subst ha
  refine MixH.one [false, false, false, false, true] 4 4 _ rfl rfl (by kernel_rfl) (by kernel_rfl) (fun K hK => ?_)
  simp only [Mix.pick]
  go_wp2_with fail
  refine Calls.mono (num_any E wA) ?_
  rintro e wN ⟨rfl, rfl⟩
  go_wp2
  refine ⟨rfl, hK _ _ hS ?_⟩
  clear hK K
  refine MixH.one [false, false, false, false, false, false, true] 3 6 _ rfl rfl (by kernel_rfl) (by kernel_rfl) (fun K hK => ?_)
  simp only [Mix.pick]
  have QC : Hid _ := check_any' h la ln lc os da n c wA (HK.out.old belA)
  rw [← HR.out] at QC
  go_wp2_with fail
  refine Calls.mono QC.out ?_
  rintro e w5 ⟨rfl, hb5⟩
  have bel5 := bthen belA hb5
  have HP5 : Hid (H4At w5 O2 h (.slice lb ln mc) (.slice db n dc)) := H4At.below HPA.out hb5
  have HK5 : Hid (H4Ok w5 h lb ln mc ps db n dc) := HKA.out.old hb5
  have HSR5 : Hid (SerRes w3 h (.slice va vn vc) w5) := by
    rcases HSRA.out with ⟨h0, g, e1, ho⟩ | h
    · exact .inl ⟨h0, g, e1, (Ch.ofBelow (S := fun _ => False) hb5).owns ho (fun _ _ => id)⟩
    · exact .inr h
  replace hS := H4At.below hS hb5
  clear QC hb5 HPA HKA HSRA belA
  go_wp2
  refine ⟨rfl, hK _ _ hS ?_⟩
  clear hK K
  refine MixH.one [false, false, false, false, false, false, false, true] 2 7 _ rfl rfl (by kernel_rfl) (by kernel_rfl) (fun K hK => ?_)
  simp only [Mix.pick]
  go_wp2_with fail
  refine Calls.mono (num_any E w5) ?_
  rintro e wN ⟨rfl, rfl⟩
  go_wp2
  refine ⟨rfl, hK _ _ hS ?_⟩
  clear hK K
  refine MixH.takes [false, false, false, false, false, false, false, false, true, true] 0 (by kernel_rfl) (by kernel_rfl) (by decide) (by kernel_rfl) hS (fun K hK => ?_)
  simp only [Mix.pick]
  repeat (go_big_quiet_step (fail))
  refine wpQuiet_nil (hK _ ?_)
  clear hK K
  refine MixH.done (by kernel_rfl) ?_
  have ne1 : ((E : Int) != (E : Int)) = false := by simp
  go_upto_region 6 with fail
  have HB5 : Hid (H4At w5 O h (.slice la ln lc) (.slice da n c)) := hS
  have g42 : w5.cell? ⟨O, 42, none⟩ = some (.slice da n c) := hS.c42
  clear hS
  rcases HSR5.out with ⟨h0, g, hv, ho⟩ | ⟨hne, hv⟩
  case inr =>
    simp only [Value.slice.injEq] at hv
    obtain ⟨rfl, rfl, rfl⟩ := hv
    have b1 : ((E : Int) != 0) = true := by rw [HR.out, bne_iff_ne]; omega
    clear hne HSR5
    go_wp2_with fail
    refine Calls.mono (num_any E w5) ?_
    rintro e w6 ⟨rfl, rfl⟩
    go_wp2
    go_ret
    exact ⟨rfl, bel5⟩
  simp only [Value.slice.injEq] at hv
  obtain ⟨rfl, e2, e3⟩ := hv
  have hE0 : E = 0 := by rw [HR.out]; exact h0
  subst hE0
  have HM : Hid (I4.May h) := (I4.chk_zero h).1 h0
  obtain ⟨cb, hcb⟩ : ∃ cb, cb = I4.ser h := ⟨_, rfl⟩
  have HS256 : Hid (∀ x ∈ cb, x < 256) := by rw [hcb]; exact ser_256 h HM.out HK.out.sx HK.out.dx (by rw [HK.out.hos]; exact opts_256 HK.out.opts) HK.out.d256
  have HTK : Hid (I4.Taken cb) := by rw [hcb]; exact I4.ser_taken h HM.out
  have HEQ : Hid (I4.Eqv (I4.pH cb) h) := by rw [hcb]; exact I4.ser_eq h HM.out
  have HCC : Hid (canon cb = true) := by show _ = _; rw [hcb]; exact canon_serB h HM.out
  have HPE : Hid (I4.pE cb = 0) := (I4.pE_zero cb).2 HTK.out
  obtain ⟨T, hT⟩ : ∃ T, T = cb.length := ⟨_, rfl⟩
  obtain ⟨D, hD⟩ : ∃ D, D = I4.serHd h := ⟨_, rfl⟩
  have hTD : T = D + n := by rw [hT, hcb, I4.ser_len, hD]; unfold I4.serTl; rw [HK.out.dl]
  have HG : Hid (S.fold (S.wv false (cb.take D)) = 65535) := by show _ = _; rw [hcb, hD]; exact I4.ser_good h
  have HT : Hid (cb.length = T) := hT.symm
  have hTn : T ≤ 65535 := by rw [hT]; exact HTK.out.le
  rw [← hcb] at e2 e3 ho
  rw [← hT] at e2 e3 ho
  subst e2 e3
  have HC5 : Hid (Seg .u8 w5 (some ⟨g, 0, none⟩) (toI cb)) := by
    obtain ⟨a', c', e1, hsg, _⟩ := owns_seg ho
    simp only [Value.slice.injEq, true_and] at e1
    rw [e1.1]; exact hsg
  have QP : Hid _ := parse_two (some ⟨g, 0, none⟩) vc vc cb w5 HT.out (HWID.out w5 bel5) HC5.out HS256.out (Nat.le_refl _) (by omega)
  rw [HPE.out] at QP
  have hnl : ¬ ((vc : Int) < (n : Int)) := by omega
  have HTD : Hid (vc = D + n) := hTD
  clear ho hcb hT hD HSR5 h0 hTD
  go_wp2_with fail
  refine Calls.mono (num_any 0 w5) ?_
  rintro e w6 ⟨rfl, rfl⟩
  go_wp2_with fail
  refine Calls.mono QP.out ?_
  rintro e w6 ⟨C, rfl, hb6, hr6⟩
  rcases hr6 with ⟨hne, _⟩ | ⟨_, hrd6⟩
  case inl => exact absurd rfl hne
  obtain ⟨lx, K2, lc2, qs, rfl, hok6, _⟩ := hrd6.ex
  have bel6 := bthen bel5 hb6
  have HB6 : Hid (H4At w6 O h (.slice la ln lc) (.slice da n c)) := H4At.below HB5.out hb6
  have HP6 : Hid (H4At w6 O2 h (.slice lb ln mc) (.slice db n dc)) := H4At.below HP5.out hb6
  have HK6 : Hid (H4Ok w6 h lb ln mc ps db n dc) := HK5.out.old hb6
  have HC6 : Hid (Seg .u8 w6 (some ⟨g, 0, none⟩) (toI cb)) := HC5.out.old hb6
  have hv : vals qs = vals ps := by
    have h1 := hok6.hos
    rw [HEQ.out.os, HK6.out.hos] at h1
    exact h1.symm
  have hK2 : K2 = ln := by
    have h1 := congrArg List.length hv
    simp only [vals, List.length_map] at h1
    rw [hok6.ol, HK6.out.ol] at h1
    exact h1
  have hd2 : I4.tlL cb - I4.hdL cb = n := by
    have h1 := hok6.dl
    rw [HEQ.out.data, HK6.out.dl] at h1
    exact h1.symm
  rw [hd2] at hok6 ⊢
  subst hK2
  obtain ⟨dX, hdX⟩ : ∃ dX, dX = cutA (some ⟨g, 0, none⟩) (I4.hdL cb) n := ⟨_, rfl⟩
  rw [← hdX] at hok6 ⊢
  have HQO : Hid (OptsAt w6 lx qs) := hok6.opts
  have HQS : Hid (Seg .u8 w6 dX (toI h.data)) := by have := hok6.seg; rw [HEQ.out.data] at this; exact this
  have HQL : Hid (qs.length = K2) := hok6.ol
  have HV : Hid (vals qs = vals ps) := hv
  rw [h4C_eqv HEQ.out]
  clear hb6 hrd6 hv hdX hd2 hok6 QP HB5 HP5 HK5 HC5 bel5 g42
  go_wp2_with (first | (refine wpList_alloc_h4 rfl rfl ?_) | (refine wpList_store_h4 (.tmp 7) (.tmp 42) rfl rfl w6.heap.size h4z h nilS nilS (.slice lx K2 lc2) (.slice dX n n) rfl rfl rfl rfl (h4At_new _ _ _ _) rfl ?_))
  intro w7 hP7 k7
  have sb7 := stored_below k7
  have bel7 := bthen bel6 sb7
  obtain ⟨O3, hO3⟩ : ∃ O3, O3 = w6.heap.size := ⟨_, rfl⟩
  rw [← hO3] at hP7 ⊢
  have HX7 : Hid (H4At w7 O3 h (.slice lx K2 lc2) (.slice dX n n)) := hP7
  have HP7 : Hid (H4At w7 O2 h (.slice lb K2 mc) (.slice db n dc)) := H4At.below HP6.out sb7
  have HB7 : Hid (H4At w7 O h (.slice la K2 lc) (.slice da n c)) := H4At.below HB6.out sb7
  have HK7 : Hid (H4Ok w7 h lb K2 mc ps db n dc) := HK6.out.old sb7
  have HC7 : Hid (Seg .u8 w7 (some ⟨g, 0, none⟩) (toI cb)) := HC6.out.old sb7
  have QM : Hid _ := same_true h lx lb dX db K2 lc2 mc n n dc qs ps h.data w7 (HQO.out.old sb7) HK7.out.opts HQL.out HV.out HK7.out.on HK7.out.dl (HQS.out.old sb7) HK7.out.seg HK7.out.d256
  clear hP7 k7 sb7 hO3 HP6 HB6 HK6 HC6 HQO HQS bel6
  go_wp2_with fail
  refine Calls.mono (num_any 0 w7) ?_
  rintro e w8 ⟨rfl, rfl⟩
  go_wp2_with (first | (refine wpList_load_h4 _ rfl O3 h (.slice lx K2 lc2) (.slice dX n n) rfl HX7.out rfl ?_) | (refine wpList_load_h4 _ rfl O2 h (.slice lb K2 mc) (.slice db n dc) rfl HP7.out rfl ?_))
  refine Calls.mono QM.out ?_
  rintro e w8 ⟨rfl, hb8⟩
  have bel8 := bthen bel7 hb8
  have HB8 : Hid (H4At w8 O h (.slice la K2 lc) (.slice da n c)) := H4At.below HB7.out hb8
  have HC8 : Hid (Seg .u8 w8 (some ⟨g, 0, none⟩) (toI cb)) := HC7.out.old hb8
  have QCC : Hid _ := canonical_any (some ⟨g, 0, none⟩) vc vc cb w8 HT.out (HWID.out w8 bel8) HC8.out HS256.out (Nat.le_refl _) (by omega)
  rw [HCC.out] at QCC
  clear hb8 QM HX7 HP7 HB7 HK7 HC7 bel7
  go_wp2_with fail
  refine Calls.mono QCC.out ?_
  rintro e w9 ⟨rfl, hb9⟩
  have bel9 := bthen bel8 hb9
  have HB9 : Hid (H4At w9 O h (.slice la K2 lc) (.slice da n c)) := H4At.below HB8.out hb9
  have g42 : w9.cell? ⟨O, 42, none⟩ = some (.slice da n c) := HB9.out.c42
  have HC9 : Hid (Seg .u8 w9 (some ⟨g, 0, none⟩) (toI (cb.take D))) := by
    have h1 := (HC8.out.old hb9).part0 D (by rw [toI_len]; have := HT.out; have := HTD.out; omega)
    rw [toI_take] at h1
    exact h1
  have s1 : IntKind.i64.wrap ((vc : Int) - (n : Int)) = (D : Int) := by rw [IntKind.wrap_i64]; have := HTD.out; omega
  have s2 : (0 : Int) ≤ (D : Int) := by omega
  have s3 : (D : Int) ≤ (vc : Int) := by have := HTD.out; omega
  have s4 : ((D : Int)).toNat = D := by omega
  have QG : Hid _ := good_one w9 w9.heap.size (some ⟨g, 0, none⟩) D vc (cb.take D) rfl (by rw [List.length_take, HT.out]; have := HTD.out; omega) ⟨HC9.out, fun x hx => HS256.out x (List.mem_of_mem_take hx), by show (cb.take D).length ≤ vc; rw [List.length_take, HT.out]; omega, by show vc ≤ _; omega⟩ (by omega)
  rw [decide_eq_true HG.out] at QG
  clear hb9 QCC HB8 HC8 bel8
  go_wp2_with fail
  refine Calls.mono QG.out ?_
  rintro e w10 ⟨rfl, hb10⟩
  have bel10 := bthen bel9 hb10
  go_wp2
  go_ret
  exact ⟨rfl, bel10⟩
end Go.Proofs.YtdinhgfkpjaipaaDoor
