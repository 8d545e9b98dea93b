/-
  Layer 18: the document's own answer: Tick, New.
-/
import Derived.Test.YtcdbhkihbfjedaaQR5
namespace Go.Proofs.Ytcdbhkihbfjedaa
open Go.RowKit

theorem fill_next {cs : List CL} {k : Nat} {c : CL} (h : cs[k]? = some c) : ((cs.take k).map fillC ++ cs.drop k).set k (fillC c) = (cs.take (k + 1)).map fillC ++ cs.drop (k + 1) := by
  have hk := (List.getElem?_eq_some_iff.1 h).1
  have e : cs[k] = c := by rw [List.getElem?_eq_getElem hk] at h; exact Option.some.inj h
  have h1 : ((cs.take k).map fillC).length = k := by rw [List.length_map, List.length_take]; omega
  rw [List.take_succ_eq_append_getElem hk, e, List.map_append, List.set_append, if_neg (by omega), h1, Nat.sub_self, List.drop_eq_getElem_cons hk, List.set_cons_zero]
  simp
theorem fill_at {cs : List CL} {k : Nat} {c : CL} (h : cs[k]? = some c) : ((cs.take k).map fillC ++ cs.drop k)[k]? = some c := by
  have hk := (List.getElem?_eq_some_iff.1 h).1
  have h1 : ((cs.take k).map fillC).length = k := by rw [List.length_map, List.length_take]; omega
  rw [List.getElem?_append_right (by omega), h1, Nat.sub_self, List.getElem?_drop, Nat.add_zero]
  exact h
theorem put_same {rs : List RL} {v : RQ} {t : TN} {i : Nat} {r r' : RL} (h : RT rs v t) (hi : rs[i]? = some r) (hd : r'.de = r.de) {v' : RQ} (h1 : v'.at' = v.at') (h2 : v'.gv = v.gv) : RT (rs.set i r') v' t := by
  refine ⟨h1.trans h.1, h2.trans h.2.1, fun j y hy => ?_⟩
  by_cases e : j = i
  · subst e
    rw [List.getElem?_set_self (List.getElem?_eq_some_iff.1 hi).1] at hy
    cases hy
    rw [hd]; exact h.2.2 j r hi
  · rw [List.getElem?_set_ne (fun x => e x.symm)] at hy
    exact h.2.2 j y hy
set_option maxHeartbeats 3200000 in
set_option maxRecDepth 100000 in
theorem tickR_any (v : RQ) (rs : List RL) (cs : List CL) (t : TN) (w : World) (h : RS w v rs) (hcs : csR rs = cs) (hT : RT rs v t) (hok : QOk cs t) : Calls Try.prog 55 #[.agg (rqA v)] w fun e w' => ∃ v' rs', e = .returned (.agg (rqA v')) ∧ RS w' v' rs' ∧ csR rs' = cs.map fillC ∧ RT rs' v' t ∧ Below w.heap.size w w' := by
  have HH : Hid (RS w v rs ∧ csR rs = cs ∧ RT rs v t ∧ QOk cs t) := ⟨h, hcs, hT, hok⟩
  obtain ⟨n, hn⟩ : ∃ n, cs.length = n := ⟨_, rfl⟩
  have HN : Hid (cs.length = n) := hn
  have hn8 : 1 ≤ n ∧ n ≤ 8 := by rw [← hn]; exact hok.len
  clear h hcs hT hok hn
  go_enter Try.func55, Try.ntmps55
  go_upto_region 1 with (first | (refine wpList_box_rqv (.tmp 0) rfl v rfl rfl ?_; intro B1 W1 hB1 hA1 b1) | (refine wpList_nil_rqv rfl rfl ?_; intro B2 W2 hB2 hA2 b2))
  have HB : Hid (RqvAt W2 B1 v ∧ RqvAt W2 B2 qz ∧ Below w.heap.size w W2 ∧ RS W2 v rs) := ⟨hA1.below b2, hA2, bthen b1 b2, (HH.out.1.below b1).below b2⟩
  have HO : Hid (w.heap.size = B1 ∧ B2 = B1 + 1 ∧ W2.heap.size = B2 + 1) := ⟨hB1.out.1, by have g1 := hB1.out; have g2 := hB2.out; omega, hB2.out.2⟩
  clear hB1 hA1 b1 hB2 hA2 b2
  go_wp2_with fail
  go_loopw [3] (fun iv wr => ∃ (k : Nat) (v1 : RQ) (rs1 : List RL), k ≤ n ∧ iv = .int .i64 (k : Nat) ∧ Hid (RqvAt wr B1 v1 ∧ RqvAt wr B2 qz ∧ RS wr v1 rs1 ∧ csR rs1 = (cs.take k).map fillC ++ cs.drop k ∧ RT rs1 v1 t ∧ Below w.heap.size w wr)) (fun iv _ => n - (intOf iv).toNat)
  case atStart => exact ⟨0, v, rs, Nat.zero_le _, rfl, HB.out.1, HB.out.2.1, HB.out.2.2.2, HH.out.2.1, HH.out.2.2.1, HB.out.2.2.1⟩
  case round =>
    obtain ⟨k, v1, rs1, hk, rfl, HI⟩ := hrel
    have hvn : v1.n = n := by rw [HI.out.2.2.1.n, ← csR_len, HI.out.2.2.2.1, ← HN.out]; simp; have := HN.out; omega
    by_cases hkn : k < n
    · have p1 : decide ((k : Int) < (n : Int)) = true := decide_eq_true (by omega)
      have p2 : decide (k < n) = true := decide_eq_true hkn
      have k0 : (0 : Int) ≤ (k : Int) := by omega
      have k1 : (k : Int) < (n : Int) := by omega
      have k2 : ((k : Int)).toNat = k := by omega
      have wk : IntKind.i64.wrap ((k : Int) + 1) = (k : Int) + 1 := i64_s _ (by omega) (by omega)
      obtain ⟨r, hr⟩ : ∃ r, rs1[k]? = some r := ⟨_, List.getElem?_eq_getElem (by have := HI.out.2.2.1.n; omega)⟩
      obtain ⟨c, hc⟩ : ∃ c, cs[k]? = some c := ⟨_, List.getElem?_eq_getElem (by have := HN.out; omega)⟩
      have hrc : r.c = c := by
        have h1 : (csR rs1)[k]? = some r.c := by unfold csR; rw [List.getElem?_map, hr]; rfl
        rw [HI.out.2.2.2.1, fill_at hc] at h1
        exact (Option.some.inj h1).symm
      subst hrc
      have HRR : Hid (rs1[k]? = some r) := hr
      have HCK : Hid (cs[k]? = some r.c) := hc
      have HKN : Hid (k < n) := hkn
      have HCL : Hid (ClOk r.c) := HH.out.2.2.2.cl r.c (List.mem_of_getElem? hc)
      obtain ⟨g, off, hla, hrg⟩ := HI.out.2.2.1.line hr
      have HRG : Hid (wr.rangeAt g (off + k * 8) (rlA r).toList) := hrg
      have c0 : wr.cell? ⟨B1, 0, none⟩ = some (.slice (some ⟨g, off, none⟩) n v1.lc) := (HI.out.1.cell 0).trans (by rw [← hla, ← hvn]; rfl)
      clear hla hrg hr hc hvn hk hkn
      go_upto_region 4 with fail
      go_wp2_with (first | (refine wpList_mid_rlv (.tmp 15) rfl g (off + k * 8) r rfl HRG.out rfl ?_) | (refine wpList_nil_rlv rfl rfl ?_; intro B3 X hB3 hX bX) | (refine wpList_store_rlv (.tmp 4) (.tmp 16) rfl rfl B3 rz r rfl rfl hX rfl ?_))
      intro x3 h3 k3
      go_upto_region 5 with fail
      have HOL : Hid (w.heap.size ≤ B1 ∧ B1 < B2 ∧ B2 < B3 ∧ wr.heap.size ≤ B3) := by have g1 := hB3.out; have g2 := HO.out; have g3 := HI.out.2.1.lt; exact ⟨by omega, by omega, by omega, by omega⟩
      have HP : Hid (LB w wr B1 B2 B3 v1 r x3) := by
        have hg := HOL.out
        exact ⟨h3, (HI.out.1.below bX).ch k3 (by omega), (HI.out.2.1.below bX).ch k3 (by omega), (HI.out.2.2.2.2.2.trans (bX.mono HI.out.2.2.2.2.2.size)).trans (k3.below (fun q hq => by omega) (Nat.le_trans HI.out.2.2.2.2.2.size bX.size)), (Ch.ofBelow bX).trans k3 (fun q hq e => by omega)⟩
      clear hB3 hX bX h3 k3 c0 HRG
      have c3 : x3.cell? ⟨B3, 3, none⟩ = some (.int .i64 r.c.li.ra) := HP.out.l.cell 3
      by_cases hra : 0 < r.c.li.ra
      · have qra : decide (0 < r.c.li.ra) = true := decide_eq_true hra
        have htk := HCL.out.tk hra
        have hbu := HCL.out.li.bu hra
        have hrb := HCL.out.li.ra
        obtain ⟨s, hs⟩ : ∃ s, r.c.tk + r.c.li.ra = s := ⟨_, rfl⟩
        have ws : IntKind.i64.wrap (r.c.tk + r.c.li.ra) = s := by rw [hs]; exact i64_s _ (by omega) (by omega)
        have HFE : Hid (fillC r.c = ⟨r.c.li, r.c.L, min s r.c.li.bu⟩) := by show _ = _; rw [← hs]; exact if_pos hra
        clear hra htk hbu hrb hs
        have cca : x3.cell? ⟨B3, 7, none⟩ = some (.int .i64 r.c.tk) := HP.out.l.cell 7
        have zza := HP.out.l.fz 7
        have HQ : Hid (LB w wr B1 B2 B3 v1 (⟨⟨r.c.li, r.c.L, s⟩, r.de, r.la, r.lc⟩) (x3.setCell ⟨B3, 7, none⟩ (.int .i64 s))) := HP.out.set HOL.out 7 _ rfl
        obtain ⟨ya, hya⟩ : ∃ y, x3.setCell ⟨B3, 7, none⟩ (.int .i64 s) = y := ⟨_, rfl⟩
        rw [hya] at HQ
        have HWa : Hid (x3.setCell ⟨B3, 7, none⟩ (.int .i64 s) = ya) := hya
        clear hya HP
        rename Hid (LB w wr B1 B2 B3 v1 (⟨⟨r.c.li, r.c.L, s⟩, r.de, r.la, r.lc⟩) ya) => HP
        go_upto_region 7 with fail
        rw [HWa.out]
        clear cca zza c3
        have c7 : ya.cell? ⟨B3, 7, none⟩ = some (.int .i64 s) := HP.out.l.cell 7
        have c4 : ya.cell? ⟨B3, 4, none⟩ = some (.int .i64 r.c.li.bu) := HP.out.l.cell 4
        by_cases hsb : r.c.li.bu < s
        · have qsb : decide (r.c.li.bu < s) = true := decide_eq_true hsb
          have HFC : Hid ((⟨r.c.li, r.c.L, r.c.li.bu⟩ : CL) = fillC r.c) := by show _ = _; rw [HFE.out, min_gt hsb]
          clear hsb
          have ccb : ya.cell? ⟨B3, 7, none⟩ = some (.int .i64 s) := HP.out.l.cell 7
          have zzb := HP.out.l.fz 7
          have HQ : Hid (LB w wr B1 B2 B3 v1 (⟨⟨r.c.li, r.c.L, r.c.li.bu⟩, r.de, r.la, r.lc⟩) (ya.setCell ⟨B3, 7, none⟩ (.int .i64 r.c.li.bu))) := HP.out.set HOL.out 7 _ rfl
          obtain ⟨yb, hyb⟩ : ∃ y, ya.setCell ⟨B3, 7, none⟩ (.int .i64 r.c.li.bu) = y := ⟨_, rfl⟩
          rw [hyb] at HQ
          have HWb : Hid (ya.setCell ⟨B3, 7, none⟩ (.int .i64 r.c.li.bu) = yb) := hyb
          clear hyb HP
          rename Hid (LB w wr B1 B2 B3 v1 (⟨⟨r.c.li, r.c.L, r.c.li.bu⟩, r.de, r.la, r.lc⟩) yb) => HP
          go_upto_region 9 with fail
          rw [HWb.out]
          clear ccb zzb c7 c4
          have HSL : Hid (RS yb v1 rs1) := HI.out.2.2.1.chq HP.out.k HI.out.1
          have QP : Hid _ := put_any v1 rs1 k (⟨⟨r.c.li, r.c.L, r.c.li.bu⟩, r.de, r.la, r.lc⟩) yb HSL.out (List.getElem?_eq_some_iff.1 HRR.out).1 (by have h1 := HSL.out.it r (List.mem_of_getElem? HRR.out); exact h1)
          go_wp2_with (first | (refine wpList_load_rqv (.tmp 1) rfl B1 v1 rfl HP.out.q rfl ?_) | (refine wpList_load_rlv (.tmp 4) rfl B3 (⟨⟨r.c.li, r.c.L, r.c.li.bu⟩, r.de, r.la, r.lc⟩) rfl HP.out.l rfl ?_))
          refine Calls.mono QP.out ?_
          rintro ep yp ⟨la, lc, rfl, s5, b5⟩
          obtain ⟨v5, hv5⟩ : ∃ v5 : RQ, v5 = ⟨la, v1.n, lc, v1.at', v1.gv⟩ := ⟨_, rfl⟩
          have HP5 : Hid (RS yp v5 (rs1.set k (⟨⟨r.c.li, r.c.L, r.c.li.bu⟩, r.de, r.la, r.lc⟩)) ∧ RqvAt yp B1 v1 ∧ RqvAt yp B2 qz ∧ Below w.heap.size w yp ∧ v5.at' = v1.at' ∧ v5.gv = v1.gv) := by rw [hv5]; exact ⟨s5, HP.out.q.below b5, HP.out.z.below b5, HP.out.b.trans (b5.mono HP.out.b.size), rfl, rfl⟩
          rw [← hv5]
          clear s5 b5 hv5 QP
          go_wp2_with (first | (refine wpList_store_rqv (.tmp 1) (.tmp 41) rfl rfl B1 v1 v5 rfl rfl HP5.out.2.1 rfl ?_))
          intro w9 h9 k9
          have H9 : Hid (RqvAt w9 B1 v5 ∧ RqvAt w9 B2 qz ∧ RS w9 v5 (rs1.set k (⟨⟨r.c.li, r.c.L, r.c.li.bu⟩, r.de, r.la, r.lc⟩)) ∧ csR (rs1.set k (⟨⟨r.c.li, r.c.L, r.c.li.bu⟩, r.de, r.la, r.lc⟩)) = (cs.take (k + 1)).map fillC ++ cs.drop (k + 1) ∧ RT (rs1.set k (⟨⟨r.c.li, r.c.L, r.c.li.bu⟩, r.de, r.la, r.lc⟩)) v5 t ∧ Below w.heap.size w w9) := ⟨h9, HP5.out.2.2.1.ch k9 (by have := HO.out; omega), HP5.out.1.chq k9 HP5.out.2.1, by rw [csR_set, HI.out.2.2.2.1, ← fill_next HCK.out]; exact congrArg _ HFC.out, put_same (r' := ⟨⟨r.c.li, r.c.L, r.c.li.bu⟩, r.de, r.la, r.lc⟩) HI.out.2.2.2.2.1 HRR.out rfl HP5.out.2.2.2.2.1 HP5.out.2.2.2.2.2, HP5.out.2.2.2.1.trans (k9.below (fun q hq => by have := HO.out; omega) HP5.out.2.2.2.1.size)⟩
          clear h9 k9 HP5
          go_wp2_with fail
          go_roundw
          case rel => exact ⟨k + 1, v5, rs1.set k (⟨⟨r.c.li, r.c.L, r.c.li.bu⟩, r.de, r.la, r.lc⟩), by have := HKN.out; omega, rfl, H9.out⟩
          case measure => simp only [intOf]; have := HKN.out; omega
        · have qsb : decide (r.c.li.bu < s) = false := decide_eq_false hsb
          have HFC : Hid ((⟨r.c.li, r.c.L, s⟩ : CL) = fillC r.c) := by show _ = _; rw [HFE.out, min_le hsb]
          clear hsb
          go_upto_region 9 with fail
          clear c7 c4
          have HSL : Hid (RS ya v1 rs1) := HI.out.2.2.1.chq HP.out.k HI.out.1
          have QP : Hid _ := put_any v1 rs1 k (⟨⟨r.c.li, r.c.L, s⟩, r.de, r.la, r.lc⟩) ya HSL.out (List.getElem?_eq_some_iff.1 HRR.out).1 (by have h1 := HSL.out.it r (List.mem_of_getElem? HRR.out); exact h1)
          go_wp2_with (first | (refine wpList_load_rqv (.tmp 1) rfl B1 v1 rfl HP.out.q rfl ?_) | (refine wpList_load_rlv (.tmp 4) rfl B3 (⟨⟨r.c.li, r.c.L, s⟩, r.de, r.la, r.lc⟩) rfl HP.out.l rfl ?_))
          refine Calls.mono QP.out ?_
          rintro ep yp ⟨la, lc, rfl, s5, b5⟩
          obtain ⟨v5, hv5⟩ : ∃ v5 : RQ, v5 = ⟨la, v1.n, lc, v1.at', v1.gv⟩ := ⟨_, rfl⟩
          have HP5 : Hid (RS yp v5 (rs1.set k (⟨⟨r.c.li, r.c.L, s⟩, r.de, r.la, r.lc⟩)) ∧ RqvAt yp B1 v1 ∧ RqvAt yp B2 qz ∧ Below w.heap.size w yp ∧ v5.at' = v1.at' ∧ v5.gv = v1.gv) := by rw [hv5]; exact ⟨s5, HP.out.q.below b5, HP.out.z.below b5, HP.out.b.trans (b5.mono HP.out.b.size), rfl, rfl⟩
          rw [← hv5]
          clear s5 b5 hv5 QP
          go_wp2_with (first | (refine wpList_store_rqv (.tmp 1) (.tmp 41) rfl rfl B1 v1 v5 rfl rfl HP5.out.2.1 rfl ?_))
          intro w9 h9 k9
          have H9 : Hid (RqvAt w9 B1 v5 ∧ RqvAt w9 B2 qz ∧ RS w9 v5 (rs1.set k (⟨⟨r.c.li, r.c.L, s⟩, r.de, r.la, r.lc⟩)) ∧ csR (rs1.set k (⟨⟨r.c.li, r.c.L, s⟩, r.de, r.la, r.lc⟩)) = (cs.take (k + 1)).map fillC ++ cs.drop (k + 1) ∧ RT (rs1.set k (⟨⟨r.c.li, r.c.L, s⟩, r.de, r.la, r.lc⟩)) v5 t ∧ Below w.heap.size w w9) := ⟨h9, HP5.out.2.2.1.ch k9 (by have := HO.out; omega), HP5.out.1.chq k9 HP5.out.2.1, by rw [csR_set, HI.out.2.2.2.1, ← fill_next HCK.out]; exact congrArg _ HFC.out, put_same (r' := ⟨⟨r.c.li, r.c.L, s⟩, r.de, r.la, r.lc⟩) HI.out.2.2.2.2.1 HRR.out rfl HP5.out.2.2.2.2.1 HP5.out.2.2.2.2.2, HP5.out.2.2.2.1.trans (k9.below (fun q hq => by have := HO.out; omega) HP5.out.2.2.2.1.size)⟩
          clear h9 k9 HP5
          go_wp2_with fail
          go_roundw
          case rel => exact ⟨k + 1, v5, rs1.set k (⟨⟨r.c.li, r.c.L, s⟩, r.de, r.la, r.lc⟩), by have := HKN.out; omega, rfl, H9.out⟩
          case measure => simp only [intOf]; have := HKN.out; omega
      · have qra : decide (0 < r.c.li.ra) = false := decide_eq_false hra
        have HFC : Hid (r.c = fillC r.c) := by show _ = _; exact (if_neg hra).symm
        clear hra
        go_upto_region 9 with fail
        clear c3
        have HSL : Hid (RS x3 v1 rs1) := HI.out.2.2.1.chq HP.out.k HI.out.1
        have QP : Hid _ := put_any v1 rs1 k (r) x3 HSL.out (List.getElem?_eq_some_iff.1 HRR.out).1 (by have h1 := HSL.out.it r (List.mem_of_getElem? HRR.out); exact h1)
        go_wp2_with (first | (refine wpList_load_rqv (.tmp 1) rfl B1 v1 rfl HP.out.q rfl ?_) | (refine wpList_load_rlv (.tmp 4) rfl B3 (r) rfl HP.out.l rfl ?_))
        refine Calls.mono QP.out ?_
        rintro ep yp ⟨la, lc, rfl, s5, b5⟩
        obtain ⟨v5, hv5⟩ : ∃ v5 : RQ, v5 = ⟨la, v1.n, lc, v1.at', v1.gv⟩ := ⟨_, rfl⟩
        have HP5 : Hid (RS yp v5 (rs1.set k (r)) ∧ RqvAt yp B1 v1 ∧ RqvAt yp B2 qz ∧ Below w.heap.size w yp ∧ v5.at' = v1.at' ∧ v5.gv = v1.gv) := by rw [hv5]; exact ⟨s5, HP.out.q.below b5, HP.out.z.below b5, HP.out.b.trans (b5.mono HP.out.b.size), rfl, rfl⟩
        rw [← hv5]
        clear s5 b5 hv5 QP
        go_wp2_with (first | (refine wpList_store_rqv (.tmp 1) (.tmp 41) rfl rfl B1 v1 v5 rfl rfl HP5.out.2.1 rfl ?_))
        intro w9 h9 k9
        have H9 : Hid (RqvAt w9 B1 v5 ∧ RqvAt w9 B2 qz ∧ RS w9 v5 (rs1.set k (r)) ∧ csR (rs1.set k (r)) = (cs.take (k + 1)).map fillC ++ cs.drop (k + 1) ∧ RT (rs1.set k (r)) v5 t ∧ Below w.heap.size w w9) := ⟨h9, HP5.out.2.2.1.ch k9 (by have := HO.out; omega), HP5.out.1.chq k9 HP5.out.2.1, by rw [csR_set, HI.out.2.2.2.1, ← fill_next HCK.out]; exact congrArg _ HFC.out, put_same (r' := r) HI.out.2.2.2.2.1 HRR.out rfl HP5.out.2.2.2.2.1 HP5.out.2.2.2.2.2, HP5.out.2.2.2.1.trans (k9.below (fun q hq => by have := HO.out; omega) HP5.out.2.2.2.1.size)⟩
        clear h9 k9 HP5
        go_wp2_with fail
        go_roundw
        case rel => exact ⟨k + 1, v5, rs1.set k (r), by have := HKN.out; omega, rfl, H9.out⟩
        case measure => simp only [intOf]; have := HKN.out; omega
    · have p1 : decide ((k : Int) < (n : Int)) = false := decide_eq_false (by omega)
      have p2 : decide (k < n) = false := decide_eq_false hkn
      have c0 : wr.cell? ⟨B1, 0, none⟩ = some (.slice v1.la n v1.lc) := (HI.out.1.cell 0).trans (by rw [← hvn]; rfl)
      have HF : Hid (csR rs1 = cs.map fillC) := by
        show _ = _
        rw [HI.out.2.2.2.1, List.take_of_length_le (by have := HN.out; omega), List.drop_of_length_le (by have := HN.out; omega), List.append_nil]
      clear hkn hk hvn
      go_wp2_with (first | (refine wpList_load_rqv (.tmp 1) rfl B1 v1 rfl HI.out.1 rfl ?_) | (refine wpList_store_rqv (.tmp 2) (.tmp 42) rfl rfl B2 qz v1 rfl rfl HI.out.2.1 rfl ?_))
      intro w9 h9 k9
      have H9 : Hid (RqvAt w9 B2 v1 ∧ RS w9 v1 rs1 ∧ Below w.heap.size w w9) := ⟨h9, HI.out.2.2.1.chq k9 HI.out.2.1, HI.out.2.2.2.2.2.trans (k9.below (fun q hq => by have := HO.out; omega) HI.out.2.2.2.2.2.size)⟩
      clear h9 k9
      go_wp2_with fail
      refine bodyPost_ret (results_rqv rfl _ _ B2 _ rfl H9.out.1) rfl ?_
      exact ⟨v1, rs1, rfl, H9.out.2.1, HF.out, HI.out.2.2.2.2.1, H9.out.2.2⟩
def rmk (l : LI) : RL := ⟨⟨l, [], l.bu⟩, 0, none, 0⟩
theorem run_brl (l : LI) (w : World) : (Instr.build 110 #[(0, .agg (liA l)), (3, .int .i64 l.bu)]).run Try.prog w = .ok (.agg (rlA (rmk l))) w := by kernel_rfl
theorem wpList_brl {ops : Array Oper} {rest : List Oper} {o : Oper} {a_ : Act} {w : World} {Q : Exit → Act → World → Prop} (y0 y1 : Operand) (ho : o.op = .build 110 #[(0, y0), (3, y1)]) (l : LI) (h0 : a_.eval y0 = .agg (liA l)) (h1 : a_.eval y1 = .int .i64 l.bu) (hw : Region.wanted o (yielded ops a_.tmps) = true)
    (h : wpList Try.prog ops Q rest (a_.put o.dst (.agg (rlA (rmk l)))) w) : wpList Try.prog ops Q (o :: rest) a_ w := by
  refine wpList_step fun K hK => ?_
  rw [if_pos hw]
  have hrun : (execOp a_.eval o).run Try.prog w = .ok (.value (.agg (rlA (rmk l)))) w := by
    obtain ⟨dst, op, type, pos, after, guard⟩ := o
    simp only at ho
    subst ho
    simp only [execOp, Sem.run_bind, List.map_toArray, List.map_cons, List.map_nil, h0, h1, run_brl l w, Result.andThen_ok]
    rfl
  unfold Oper.wp
  rw [hrun]
  exact hK _ _ h
theorem run_bq0 (w : World) : (Instr.build 67 #[]).run Try.prog w = .ok (.agg (rqA qz)) w := by kernel_rfl
theorem wpList_bq0 {ops : Array Oper} {rest : List Oper} {o : Oper} {a_ : Act} {w : World} {Q : Exit → Act → World → Prop} (ho : o.op = .build 67 #[]) (hw : Region.wanted o (yielded ops a_.tmps) = true)
    (h : wpList Try.prog ops Q rest (a_.put o.dst (.agg (rqA qz))) w) : wpList Try.prog ops Q (o :: rest) a_ w := by
  refine wpList_step fun K hK => ?_
  rw [if_pos hw]
  have hrun : (execOp a_.eval o).run Try.prog w = .ok (.value (.agg (rqA qz))) w := by
    obtain ⟨dst, op, type, pos, after, guard⟩ := o
    simp only at ho
    subst ho
    simp only [execOp, Sem.run_bind, List.map_toArray, List.map_nil, run_bq0 w, Result.andThen_ok]
    rfl
  unfold Oper.wp
  rw [hrun]
  exact hK _ _ h
theorem run_bs1r (x : RL) (w : World) : (Instr.buildSlice 65 1 #[(0, .agg (rlA x))]).run Try.prog w = .ok (.slice (some ⟨w.heap.size, 0, none⟩) 1 1) (w.alloc (.cells (rlA x) 110)) := by kernel_rfl
theorem wpList_bs1r {ops : Array Oper} {rest : List Oper} {o : Oper} {a : Act} {w : World} {Q : Exit → Act → World → Prop} (y : Operand) (ho : o.op = .buildSlice 65 1 #[(0, y)]) (x : RL) (hx : a.eval y = .agg (rlA x)) (hw : Region.wanted o (yielded ops a.tmps) = true)
    (h : ∀ B W, Hid (w.heap.size = B ∧ W.heap.size = B + 1) → W.rangeAt B 0 (rlL x) → Below w.heap.size w W → wpList Try.prog ops Q rest (a.put o.dst (.slice (some ⟨B, 0, none⟩) 1 1)) W) : wpList Try.prog ops Q (o :: rest) a w := by
  refine wpList_step fun K hK => ?_
  rw [if_pos hw]
  unfold Oper.wp execOp
  simp only [ho, Sem.run_bind, List.map_toArray, List.map_cons, List.map_nil, hx, run_bs1r x w, Result.andThen_ok]
  refine hK _ _ (h _ _ ⟨rfl, World.size_alloc _ _⟩ (fun j u hj => ?_) ((Below.refl _ _).alloc (Nat.le_refl _) _))
  rw [World.cell?_alloc_at _ _ _ _ rfl, Nat.zero_add]
  simpa [rlL] using hj
theorem news_rs {w : World} {base : Nat} {v : Value} {ls : List LI} (hb : nwB ls = true) (hg : GL 8 rlL 110 w base v (ls.map rmk)) : ∃ la lc, v = .slice la ls.length lc ∧ RS w ⟨la, ls.length, lc, 0, false⟩ (ls.map rmk) := by
  simp only [nwB, Bool.and_eq_true, decide_eq_true_eq] at hb
  obtain ⟨la, lc, hv, hlk, h1, h2⟩ := hg.lk rlL_len
  rw [List.length_map] at hv h1
  refine ⟨la, lc, hv, ⟨hlk, by rw [List.length_map], fun r hr => ?_, ⟨h1, h2⟩, by rw [List.length_map]; exact hb.1⟩⟩
  obtain ⟨l, _, rfl⟩ := List.mem_map.1 hr
  exact ⟨LK.nil, Nat.le_refl _, Nat.zero_le _⟩
def NewRP (w : World) (ls : List LI) (e : Ending) (w' : World) : Prop :=
  (nwB ls = true ∧ ∃ v, e = .returned (.tuple #[.agg (rqA v), .int .i64 0]) ∧ RS w' v (ls.map rmk) ∧ RT (ls.map rmk) v tz ∧ Below w.heap.size w w') ∨
  (nwB ls = false ∧ e = .returned (.tuple #[.agg (rqA qz), .int .i64 180]) ∧ Below w.heap.size w w')
theorem rmk_rt {ls : List LI} {v : RQ} (h1 : v.at' = 0) (h2 : v.gv = false) : RT (ls.map rmk) v tz := ⟨h1, h2, fun i r hr => by
  obtain ⟨l, _, rfl⟩ := List.mem_map.1 (List.mem_of_getElem? hr)
  rfl⟩
set_option maxHeartbeats 6400000 in
set_option maxRecDepth 100000 in
theorem newR_any (a : Option Addr) (n cap : Nat) (ls : List LI) (ok : LI → Prop) (w : World) (hl : ls.length = n) (hL : ListG 5 liL ok w a ls) : Calls Try.prog 39 #[.slice a n cap] w fun e w' => NewRP w ls e w' := by
  have HL : Hid (ls.length = n ∧ ListG 5 liL ok w a ls) := ⟨hl, hL⟩
  clear hL hl
  go_enter Try.func39, Try.ntmps39
  go_upto_region 1 with (first | (refine wpList_nil_rqv rfl rfl ?_; intro B2 W2 hB2 hA2 b2))
  have HA2 : Hid (RqvAt W2 B2 qz ∧ Below w.heap.size w W2) := ⟨hA2, b2⟩
  have HO : Hid (w.heap.size = B2 ∧ W2.heap.size = B2 + 1) := hB2.out
  clear hA2 b2 hB2
  have Q1 : Hid _ := out_any (n : Int) 1 8 W2
  obtain ⟨b1, hb1⟩ : ∃ b, inB (n : Int) 1 8 = b := ⟨_, rfl⟩
  have HBB : Hid (inB (n : Int) 1 8 = b1) := hb1
  rw [hb1] at Q1
  clear hb1
  go_wp2_with fail
  refine Calls.mono Q1.out ?_
  rintro e1 w1 ⟨rfl, rfl⟩
  clear Q1
  cases b1 with
  | false =>
    have HNF : Hid (nwB ls = false) := by
      show _ = _
      have h1 := HBB.out
      unfold nwB
      rw [HL.out.1]
      simp only [inB, Bool.and_eq_false_iff, decide_eq_false_iff_not] at h1 ⊢
      omega
    go_upto_region 2 with fail
    go_wp2_with (first | (refine wpList_bq0 rfl rfl ?_) | (refine wpList_store_rqv (.tmp 2) (.tmp 10) rfl rfl B2 qz qz rfl rfl HA2.out.1 rfl ?_))
    intro w9 h9 k9
    have H9 : Hid (RqvAt w9 B2 qz ∧ Below w.heap.size w w9) := ⟨h9, HA2.out.2.trans (k9.below (fun q hq => by have := HO.out; omega) HA2.out.2.size)⟩
    clear h9 k9
    go_wp2_with fail
    refine bodyPost_ret (results_rqv2 rfl _ _ B2 _ rfl H9.out.1) rfl ?_
    exact .inr ⟨HNF.out, rfl, H9.out.2⟩
  | true =>
    have H18 : Hid (1 ≤ n ∧ n ≤ 8) := by have h1 := inB_iff.1 HBB.out; exact ⟨by omega, by omega⟩
    go_upto_region 3 with fail
    go_wp2_with (first | (refine wpList_bq0 rfl rfl ?_) | (refine wpList_nil_rqv rfl rfl ?_; intro B4 X hB4 hX bX) | (refine wpList_store_rqv (.tmp 4) (.tmp 11) rfl rfl B4 qz qz rfl rfl hX rfl ?_))
    intro w4 h4 k4
    obtain ⟨W4, hW4⟩ : ∃ W4, W4 = B4 + 1 := ⟨_, rfl⟩
    have HO4 : Hid (w.heap.size = B2 ∧ B4 = B2 + 1 ∧ W4 = B4 + 1) := by have g1 := hB4.out; have g2 := HO.out; exact ⟨by omega, by omega, hW4⟩
    have H4 : Hid (RqvAt w4 B4 ⟨none, 0, 0, 0, false⟩ ∧ RqvAt w4 B2 qz ∧ Below w.heap.size w w4 ∧ W4 ≤ w4.heap.size) := by
      have g4 := HO4.out
      have g5 := h4.lt
      exact ⟨h4, (HA2.out.1.below bX).ch k4 (by omega), (bthen HA2.out.2 bX).trans (k4.below (fun q hq => by omega) (bthen HA2.out.2 bX).size), by omega⟩
    clear h4 k4 hX bX hB4 hW4
    go_wp2_with fail
    go_loopw [5] (fun iv wr => ∃ (k : Nat) (la : Option Addr) (lc : Nat), k ≤ n ∧ iv = .int .i64 (k : Nat) ∧ Hid ((ls.take k).all lmB = true ∧ RqvAt wr B4 ⟨la, k, lc, 0, false⟩ ∧ RqvAt wr B2 qz ∧ GL 8 rlL 110 wr W4 (.slice la k lc) ((ls.take k).map rmk) ∧ Below w.heap.size w wr ∧ W4 ≤ wr.heap.size)) (fun iv _ => n - (intOf iv).toNat)
    case atStart => exact ⟨0, none, 0, Nat.zero_le _, rfl, rfl, H4.out.1, H4.out.2.1, GL.nil, H4.out.2.2⟩
    case round =>
      obtain ⟨k, la, lc, hk, rfl, HI⟩ := hrel
      by_cases hkn : k < n
      · have p1 : decide ((k : Int) < (n : Int)) = true := decide_eq_true (by omega)
        have p2 : decide (k < n) = true := decide_eq_true hkn
        have k0 : (0 : Int) ≤ (k : Int) := by omega
        have k1 : (k : Int) < (n : Int) := by omega
        have k2 : ((k : Int)).toNat = k := by omega
        have wk : IntKind.i64.wrap ((k : Int) + 1) = (k : Int) + 1 := i64_s _ (by omega) (by have := H18.out; omega)
        obtain ⟨l, hl⟩ : ∃ l, ls[k]? = some l := ⟨_, List.getElem?_eq_getElem (by rw [HL.out.1]; exact hkn)⟩
        have HLK : Hid (ls[k]? = some l ∧ k < n) := ⟨hl, hkn⟩
        obtain ⟨ab, off, ha, hra⟩ := (HL.out.2.old HI.out.2.2.2.2.1).rng liL_len k l hl
        subst ha
        have HRA : Hid (wr.rangeAt ab (off + k * 5) (liA l).toList) := hra
        clear hl hra hk hkn
        go_upto_region 7 with fail
        go_wp2_with (first | (refine wpList_mid_lim (.tmp 20) rfl ab (off + k * 5) l rfl HRA.out rfl ?_) | (refine wpList_alloc_lim rfl rfl ?_) | (refine wpList_store_lim (.tmp 6) (.tmp 21) rfl rfl wr.heap.size lz l rfl rfl (lim_new wr lz) rfl ?_))
        intro w3 h3 k3
        obtain ⟨B5, hB5⟩ : ∃ B, wr.heap.size = B := ⟨_, rfl⟩
        rw [hB5] at h3 k3 ⊢
        have HZ3 : Hid (LimAt w3 B5 l ∧ RqvAt w3 B4 ⟨la, k, lc, 0, false⟩ ∧ GL 8 rlL 110 w3 W4 (.slice la k lc) ((ls.take k).map rmk) ∧ RqvAt w3 B2 qz ∧ Below w.heap.size w w3 ∧ W4 ≤ w3.heap.size) := by
          have b3 : Below wr.heap.size wr w3 := boxed_below k3 (fun q e => by have e' : q = B5 := e; omega)
          have hs := b3.size
          have hw := HI.out.2.2.2.2.2
          exact ⟨h3, HI.out.2.1.below b3, HI.out.2.2.2.1.below b3, HI.out.2.2.1.below b3, bthen HI.out.2.2.2.2.1 b3, by omega⟩
        have HZ4 : Hid (RqvAt w3 B2 qz ∧ Below w.heap.size w w3) := ⟨HZ3.out.2.2.2.1, HZ3.out.2.2.2.2.1⟩
        clear h3 k3 hB5 HRA
        go_upto_region 8 with fail
        have c0 : w3.cell? ⟨B5, 0, none⟩ = some (.int .i64 l.q) := HZ3.out.1.cell 0
        have Q0 : Hid _ := out_any l.q 64 65535 w3
        obtain ⟨b0, hb0⟩ : ∃ b, inB l.q 64 65535 = b := ⟨_, rfl⟩
        have HB0 : Hid (inB l.q 64 65535 = b0) := hb0
        rw [hb0] at Q0
        clear hb0
        go_wp2_with fail
        refine Calls.mono Q0.out ?_
        rintro e0 wz0 ⟨rfl, rfl⟩
        clear Q0 c0
        cases b0 with
        | false =>
          have HLF : Hid (lmB l = false) := by show _ = _; unfold lmB; rw [HB0.out]; simp
          have HNF : Hid (nwB ls = false) := by show _ = _; unfold nwB; rw [all_false HLK.out.1 HLF.out, Bool.and_false]
          go_upto_region 9 with fail
          go_wp2_with (first | (refine wpList_bq0 rfl rfl ?_) | (refine wpList_store_rqv (.tmp 2) (.tmp 50) rfl rfl B2 qz qz rfl rfl HZ4.out.1 rfl ?_))
          intro w9 h9 k9
          have H9 : Hid (RqvAt w9 B2 qz ∧ Below w.heap.size w w9) := ⟨h9, HZ4.out.2.trans (k9.below (fun q hq => by have := HO.out; omega) HZ4.out.2.size)⟩
          clear h9 k9
          go_wp2_with fail
          refine bodyPost_ret (results_rqv2 rfl _ _ B2 _ rfl H9.out.1) rfl ?_
          exact .inr ⟨HNF.out, rfl, H9.out.2⟩
        | true =>
          have c1 : w3.cell? ⟨B5, 1, none⟩ = some (.int .i64 l.it) := HZ3.out.1.cell 1
          have Q1 : Hid _ := out_any l.it 1 4096 w3
          obtain ⟨b1, hb1⟩ : ∃ b, inB l.it 1 4096 = b := ⟨_, rfl⟩
          have HB1 : Hid (inB l.it 1 4096 = b1) := hb1
          rw [hb1] at Q1
          clear hb1
          go_wp2_with fail
          refine Calls.mono Q1.out ?_
          rintro e1 wz1 ⟨rfl, rfl⟩
          clear Q1 c1
          cases b1 with
          | false =>
            have HLF : Hid (lmB l = false) := by show _ = _; unfold lmB; rw [HB0.out, HB1.out]; simp
            have HNF : Hid (nwB ls = false) := by show _ = _; unfold nwB; rw [all_false HLK.out.1 HLF.out, Bool.and_false]
            go_upto_region 9 with fail
            go_wp2_with (first | (refine wpList_bq0 rfl rfl ?_) | (refine wpList_store_rqv (.tmp 2) (.tmp 50) rfl rfl B2 qz qz rfl rfl HZ4.out.1 rfl ?_))
            intro w9 h9 k9
            have H9 : Hid (RqvAt w9 B2 qz ∧ Below w.heap.size w w9) := ⟨h9, HZ4.out.2.trans (k9.below (fun q hq => by have := HO.out; omega) HZ4.out.2.size)⟩
            clear h9 k9
            go_wp2_with fail
            refine bodyPost_ret (results_rqv2 rfl _ _ B2 _ rfl H9.out.1) rfl ?_
            exact .inr ⟨HNF.out, rfl, H9.out.2⟩
          | true =>
            have c2 : w3.cell? ⟨B5, 2, none⟩ = some (.int .i64 l.by') := HZ3.out.1.cell 2
            have Q2 : Hid _ := out_any l.by' 1 67108864 w3
            obtain ⟨b2, hb2⟩ : ∃ b, inB l.by' 1 67108864 = b := ⟨_, rfl⟩
            have HB2 : Hid (inB l.by' 1 67108864 = b2) := hb2
            rw [hb2] at Q2
            clear hb2
            go_wp2_with fail
            refine Calls.mono Q2.out ?_
            rintro e2 wz2 ⟨rfl, rfl⟩
            clear Q2 c2
            cases b2 with
            | false =>
              have HLF : Hid (lmB l = false) := by show _ = _; unfold lmB; rw [HB0.out, HB1.out, HB2.out]; simp
              have HNF : Hid (nwB ls = false) := by show _ = _; unfold nwB; rw [all_false HLK.out.1 HLF.out, Bool.and_false]
              go_upto_region 9 with fail
              go_wp2_with (first | (refine wpList_bq0 rfl rfl ?_) | (refine wpList_store_rqv (.tmp 2) (.tmp 50) rfl rfl B2 qz qz rfl rfl HZ4.out.1 rfl ?_))
              intro w9 h9 k9
              have H9 : Hid (RqvAt w9 B2 qz ∧ Below w.heap.size w w9) := ⟨h9, HZ4.out.2.trans (k9.below (fun q hq => by have := HO.out; omega) HZ4.out.2.size)⟩
              clear h9 k9
              go_wp2_with fail
              refine bodyPost_ret (results_rqv2 rfl _ _ B2 _ rfl H9.out.1) rfl ?_
              exact .inr ⟨HNF.out, rfl, H9.out.2⟩
            | true =>
              have c3 : w3.cell? ⟨B5, 3, none⟩ = some (.int .i64 l.ra) := HZ3.out.1.cell 3
              have Q3 : Hid _ := out_any l.ra 0 67108864 w3
              obtain ⟨b3, hb3⟩ : ∃ b, inB l.ra 0 67108864 = b := ⟨_, rfl⟩
              have HB3 : Hid (inB l.ra 0 67108864 = b3) := hb3
              rw [hb3] at Q3
              clear hb3
              go_wp2_with fail
              refine Calls.mono Q3.out ?_
              rintro e3 wz3 ⟨rfl, rfl⟩
              clear Q3 c3
              cases b3 with
              | false =>
                have HLF : Hid (lmB l = false) := by show _ = _; unfold lmB; rw [HB0.out, HB1.out, HB2.out, HB3.out]; simp
                have HNF : Hid (nwB ls = false) := by show _ = _; unfold nwB; rw [all_false HLK.out.1 HLF.out, Bool.and_false]
                go_upto_region 9 with fail
                go_wp2_with (first | (refine wpList_bq0 rfl rfl ?_) | (refine wpList_store_rqv (.tmp 2) (.tmp 50) rfl rfl B2 qz qz rfl rfl HZ4.out.1 rfl ?_))
                intro w9 h9 k9
                have H9 : Hid (RqvAt w9 B2 qz ∧ Below w.heap.size w w9) := ⟨h9, HZ4.out.2.trans (k9.below (fun q hq => by have := HO.out; omega) HZ4.out.2.size)⟩
                clear h9 k9
                go_wp2_with fail
                refine bodyPost_ret (results_rqv2 rfl _ _ B2 _ rfl H9.out.1) rfl ?_
                exact .inr ⟨HNF.out, rfl, H9.out.2⟩
              | true =>
                have c3 : w3.cell? ⟨B5, 3, none⟩ = some (.int .i64 l.ra) := HZ3.out.1.cell 3
                have c4 : w3.cell? ⟨B5, 4, none⟩ = some (.int .i64 l.bu) := HZ3.out.1.cell 4
                have hra := inB_iff.1 HB3.out
                by_cases hz : l.ra = 0
                · have qz' : decide (0 < l.ra) = false := decide_eq_false (by omega)
                  have HLT : Hid (lmB l = true) := by show _ = _; unfold lmB; rw [HB0.out, HB1.out, HB2.out, HB3.out, show (l.ra == 0) = true by simp [hz]]; rfl
                  clear hz hra
                  go_upto_region 10 with fail
                  clear c3
                  have HAL : Hid ((ls.take (k + 1)).all lmB = true) := by show _ = _; rw [all_take HLK.out.1, HI.out.1, HLT.out]; rfl
                  have d0 : w3.cell? ⟨B4, 0, none⟩ = some (.slice la k lc) := HZ3.out.2.1.cell 0
                  go_wp2_with (first | (refine wpList_load_lim (.tmp 6) rfl B5 l rfl HZ3.out.1 rfl ?_) | (refine wpList_brl (.tmp 53) (.tmp 55) rfl l rfl rfl rfl ?_) | (refine wpList_bs1r (.tmp 56) rfl (rmk l) rfl rfl ?_; intro Bi Wi hBi hRi bi) | (refine wpList_app1G rlL_len rlL_one (by decide) rfl (.tmp 52) (.tmp 57) 65 110 rfl Try.underlying65 info_rl W4 (.slice la k lc) ((ls.take k).map rmk) rfl (HZ3.out.2.2.1.below bi) Bi 1 (rmk l) rfl (by have := hBi.out; omega) hRi (by have := H18.out; have := HLK.out.2; simp; omega) (by have h1 := HZ3.out.2.2.2.2.2; have h2 := bi.size; omega) ?_))
                  intro vb wb glb gb _
                  replace glb : GL 8 rlL 110 wb W4 vb ((ls.take k).map rmk ++ [rmk l]) := by first | exact glb | (rw [List.map_take]; exact glb)
                  have hlen : ((ls.take k).map rmk ++ [rmk l]).length = k + 1 := by have := HLK.out.2; have := HL.out.1; simp; omega
                  have hsnoc : (ls.take k).map rmk ++ [rmk l] = (ls.take (k + 1)).map rmk := by
                    have hk' := (List.getElem?_eq_some_iff.1 HLK.out.1).1
                    have e : ls[k] = l := by have h1 := HLK.out.1; rw [List.getElem?_eq_getElem hk'] at h1; exact Option.some.inj h1
                    rw [List.take_succ_eq_append_getElem hk', e, List.map_append]
                    rfl
                  obtain ⟨lb, lcb, hvb⟩ := glb.form
                  rw [hlen] at hvb
                  subst hvb
                  rw [hsnoc] at glb
                  have kg : Ch (fun q => (Value.slice la k lc).ownBlock = some q) Wi wb := Ch.ofGrown gb
                  have HW4 := HZ3.out.2.2.2.2.2
                  have h4 : RqvAt wb B4 ⟨la, k, lc, 0, false⟩ := (HZ3.out.2.1.below bi).ch kg (fun e => by have := (HZ3.out.2.2.1.kind B4 e).1; have g4 := HO4.out; omega)
                  have h2 : RqvAt wb B2 qz := (HZ3.out.2.2.2.1.below bi).ch kg (fun e => by have := (HZ3.out.2.2.1.kind B2 e).1; have g4 := HO4.out; omega)
                  have hbb : Below w.heap.size w wb := (bthen HZ3.out.2.2.2.2.1 bi).trans (kg.below (fun q hq => by have := (HZ3.out.2.2.1.kind q hq).1; have g4 := HO4.out; omega) (bthen HZ3.out.2.2.2.2.1 bi).size)
                  have HZB : Hid (RqvAt wb B4 ⟨la, k, lc, 0, false⟩ ∧ RqvAt wb B2 qz ∧ GL 8 rlL 110 wb W4 (.slice lb (k + 1) lcb) ((ls.take (k + 1)).map rmk) ∧ Below w.heap.size w wb ∧ W4 ≤ wb.heap.size) := ⟨h4, h2, glb, hbb, by have h1 := bi.size; have h3 := kg.size; omega⟩
                  clear hlen hsnoc glb gb kg h4 h2 hbb hBi hRi bi d0 c4 HW4
                  have d0 : wb.cell? ⟨B4, 0, none⟩ = some (.slice la k lc) := HZB.out.1.cell 0
                  have z0 := HZB.out.1.fz 0
                  obtain ⟨wc, hwc⟩ : ∃ y, wb.setCell ⟨B4, 0, none⟩ (.slice lb (k + 1) lcb) = y := ⟨_, rfl⟩
                  have HWC : Hid (wb.setCell ⟨B4, 0, none⟩ (.slice lb (k + 1) lcb) = wc) := hwc
                  have HC : Hid ((ls.take (k + 1)).all lmB = true ∧ RqvAt wc B4 ⟨lb, k + 1, lcb, 0, false⟩ ∧ RqvAt wc B2 qz ∧ GL 8 rlL 110 wc W4 (.slice lb (k + 1) lcb) ((ls.take (k + 1)).map rmk) ∧ Below w.heap.size w wc ∧ W4 ≤ wc.heap.size) := by
                    have kk : Ch (fun q => q = B4) wb wc := by rw [← hwc]; exact (Ch.refl (fun q => q = B4) wb).set ⟨B4, 0, none⟩ _ rfl
                    have g4 := HO4.out
                    have hs := kk.size
                    have hq := HZB.out.2.2.2.2
                    exact ⟨HAL.out, by rw [← hwc]; exact HZB.out.1.set 0 _ rfl, HZB.out.2.1.ch kk (by omega), HZB.out.2.2.1.ch kk (fun q hq' e => by have := (HZB.out.2.2.1.kind q hq').1; omega), HZB.out.2.2.2.1.trans (kk.below (fun q hq' => by omega) HZB.out.2.2.2.1.size), by omega⟩
                  clear hwc HZB
                  go_upto_region 6 with fail
                  rw [HWC.out]
                  clear d0 z0
                  go_wp2_with fail
                  go_roundw
                  case rel => exact ⟨k + 1, lb, lcb, by have := HLK.out.2; omega, rfl, HC.out⟩
                  case measure => simp only [intOf]; have := HLK.out.2; omega
                · have qz' : decide (0 < l.ra) = true := decide_eq_true (by omega)
                  have Q4 : Hid _ := out_any l.bu 65535 268435456 w3
                  obtain ⟨b4, hb4⟩ : ∃ b, inB l.bu 65535 268435456 = b := ⟨_, rfl⟩
                  have HLE : Hid (lmB l = b4) := by show _ = _; unfold lmB; rw [HB0.out, HB1.out, HB2.out, HB3.out, hb4, show (l.ra == 0) = false by simp [hz]]; rfl
                  rw [hb4] at Q4
                  clear hz hra hb4
                  go_wp2_with fail
                  refine Calls.mono Q4.out ?_
                  rintro e5 w5 ⟨rfl, rfl⟩
                  clear Q4 c3
                  cases b4 with
                  | false =>
                    have HLF : Hid (lmB l = false) := HLE.out
                    have HNF : Hid (nwB ls = false) := by show _ = _; unfold nwB; rw [all_false HLK.out.1 HLF.out, Bool.and_false]
                    go_upto_region 9 with fail
                    clear c4
                    go_wp2_with (first | (refine wpList_bq0 rfl rfl ?_) | (refine wpList_store_rqv (.tmp 2) (.tmp 50) rfl rfl B2 qz qz rfl rfl HZ4.out.1 rfl ?_))
                    intro w9 h9 k9
                    have H9 : Hid (RqvAt w9 B2 qz ∧ Below w.heap.size w w9) := ⟨h9, HZ4.out.2.trans (k9.below (fun q hq => by have := HO.out; omega) HZ4.out.2.size)⟩
                    clear h9 k9
                    go_wp2_with fail
                    refine bodyPost_ret (results_rqv2 rfl _ _ B2 _ rfl H9.out.1) rfl ?_
                    exact .inr ⟨HNF.out, rfl, H9.out.2⟩
                  | true =>
                    have HLT : Hid (lmB l = true) := HLE.out
                    go_upto_region 10 with fail
                    have HAL : Hid ((ls.take (k + 1)).all lmB = true) := by show _ = _; rw [all_take HLK.out.1, HI.out.1, HLT.out]; rfl
                    have d0 : w3.cell? ⟨B4, 0, none⟩ = some (.slice la k lc) := HZ3.out.2.1.cell 0
                    go_wp2_with (first | (refine wpList_load_lim (.tmp 6) rfl B5 l rfl HZ3.out.1 rfl ?_) | (refine wpList_brl (.tmp 53) (.tmp 55) rfl l rfl rfl rfl ?_) | (refine wpList_bs1r (.tmp 56) rfl (rmk l) rfl rfl ?_; intro Bi Wi hBi hRi bi) | (refine wpList_app1G rlL_len rlL_one (by decide) rfl (.tmp 52) (.tmp 57) 65 110 rfl Try.underlying65 info_rl W4 (.slice la k lc) ((ls.take k).map rmk) rfl (HZ3.out.2.2.1.below bi) Bi 1 (rmk l) rfl (by have := hBi.out; omega) hRi (by have := H18.out; have := HLK.out.2; simp; omega) (by have h1 := HZ3.out.2.2.2.2.2; have h2 := bi.size; omega) ?_))
                    intro vb wb glb gb _
                    replace glb : GL 8 rlL 110 wb W4 vb ((ls.take k).map rmk ++ [rmk l]) := by first | exact glb | (rw [List.map_take]; exact glb)
                    have hlen : ((ls.take k).map rmk ++ [rmk l]).length = k + 1 := by have := HLK.out.2; have := HL.out.1; simp; omega
                    have hsnoc : (ls.take k).map rmk ++ [rmk l] = (ls.take (k + 1)).map rmk := by
                      have hk' := (List.getElem?_eq_some_iff.1 HLK.out.1).1
                      have e : ls[k] = l := by have h1 := HLK.out.1; rw [List.getElem?_eq_getElem hk'] at h1; exact Option.some.inj h1
                      rw [List.take_succ_eq_append_getElem hk', e, List.map_append]
                      rfl
                    obtain ⟨lb, lcb, hvb⟩ := glb.form
                    rw [hlen] at hvb
                    subst hvb
                    rw [hsnoc] at glb
                    have kg : Ch (fun q => (Value.slice la k lc).ownBlock = some q) Wi wb := Ch.ofGrown gb
                    have HW4 := HZ3.out.2.2.2.2.2
                    have h4 : RqvAt wb B4 ⟨la, k, lc, 0, false⟩ := (HZ3.out.2.1.below bi).ch kg (fun e => by have := (HZ3.out.2.2.1.kind B4 e).1; have g4 := HO4.out; omega)
                    have h2 : RqvAt wb B2 qz := (HZ3.out.2.2.2.1.below bi).ch kg (fun e => by have := (HZ3.out.2.2.1.kind B2 e).1; have g4 := HO4.out; omega)
                    have hbb : Below w.heap.size w wb := (bthen HZ3.out.2.2.2.2.1 bi).trans (kg.below (fun q hq => by have := (HZ3.out.2.2.1.kind q hq).1; have g4 := HO4.out; omega) (bthen HZ3.out.2.2.2.2.1 bi).size)
                    have HZB : Hid (RqvAt wb B4 ⟨la, k, lc, 0, false⟩ ∧ RqvAt wb B2 qz ∧ GL 8 rlL 110 wb W4 (.slice lb (k + 1) lcb) ((ls.take (k + 1)).map rmk) ∧ Below w.heap.size w wb ∧ W4 ≤ wb.heap.size) := ⟨h4, h2, glb, hbb, by have h1 := bi.size; have h3 := kg.size; omega⟩
                    clear hlen hsnoc glb gb kg h4 h2 hbb hBi hRi bi d0 c4 HW4
                    have d0 : wb.cell? ⟨B4, 0, none⟩ = some (.slice la k lc) := HZB.out.1.cell 0
                    have z0 := HZB.out.1.fz 0
                    obtain ⟨wc, hwc⟩ : ∃ y, wb.setCell ⟨B4, 0, none⟩ (.slice lb (k + 1) lcb) = y := ⟨_, rfl⟩
                    have HWC : Hid (wb.setCell ⟨B4, 0, none⟩ (.slice lb (k + 1) lcb) = wc) := hwc
                    have HC : Hid ((ls.take (k + 1)).all lmB = true ∧ RqvAt wc B4 ⟨lb, k + 1, lcb, 0, false⟩ ∧ RqvAt wc B2 qz ∧ GL 8 rlL 110 wc W4 (.slice lb (k + 1) lcb) ((ls.take (k + 1)).map rmk) ∧ Below w.heap.size w wc ∧ W4 ≤ wc.heap.size) := by
                      have kk : Ch (fun q => q = B4) wb wc := by rw [← hwc]; exact (Ch.refl (fun q => q = B4) wb).set ⟨B4, 0, none⟩ _ rfl
                      have g4 := HO4.out
                      have hs := kk.size
                      have hq := HZB.out.2.2.2.2
                      exact ⟨HAL.out, by rw [← hwc]; exact HZB.out.1.set 0 _ rfl, HZB.out.2.1.ch kk (by omega), HZB.out.2.2.1.ch kk (fun q hq' e => by have := (HZB.out.2.2.1.kind q hq').1; omega), HZB.out.2.2.2.1.trans (kk.below (fun q hq' => by omega) HZB.out.2.2.2.1.size), by omega⟩
                    clear hwc HZB
                    go_upto_region 6 with fail
                    rw [HWC.out]
                    clear d0 z0
                    go_wp2_with fail
                    go_roundw
                    case rel => exact ⟨k + 1, lb, lcb, by have := HLK.out.2; omega, rfl, HC.out⟩
                    case measure => simp only [intOf]; have := HLK.out.2; omega
      · have p1 : decide ((k : Int) < (n : Int)) = false := decide_eq_false (by omega)
        have p2 : decide (k < n) = false := decide_eq_false hkn
        have hkn' : k = n := by omega
        subst hkn'
        have HF : Hid (nwB ls = true) := by
          show _ = _
          have h1 := HI.out.1
          rw [List.take_of_length_le (by rw [HL.out.1]; exact Nat.le_refl _)] at h1
          unfold nwB
          rw [h1, HL.out.1, decide_eq_true H18.out.1, decide_eq_true H18.out.2]
          rfl
        clear hkn hk
        go_wp2_with (first | (refine wpList_load_rqv (.tmp 4) rfl B4 ⟨la, k, lc, 0, false⟩ rfl HI.out.2.1 rfl ?_) | (refine wpList_store_rqv (.tmp 2) (.tmp 60) rfl rfl B2 qz ⟨la, k, lc, 0, false⟩ rfl rfl HI.out.2.2.1 rfl ?_))
        intro w9 h9 k9
        have H9 : Hid (RqvAt w9 B2 ⟨la, k, lc, 0, false⟩ ∧ RS w9 ⟨la, k, lc, 0, false⟩ (ls.map rmk) ∧ Below w.heap.size w w9) := by
          have g := HI.out.2.2.2.1
          rw [List.take_of_length_le (by rw [HL.out.1]; exact Nat.le_refl _)] at g
          obtain ⟨la', lc', hv, hs⟩ := news_rs HF.out g
          rw [HL.out.1] at hv hs
          simp only [Value.slice.injEq] at hv
          obtain ⟨rfl, _, rfl⟩ := hv
          exact ⟨h9, hs.chq k9 HI.out.2.2.1, HI.out.2.2.2.2.1.trans (k9.below (fun q hq => by have := HO.out; omega) HI.out.2.2.2.2.1.size)⟩
        clear h9 k9
        go_wp2_with fail
        refine bodyPost_ret (results_rqv2 rfl _ _ B2 _ rfl H9.out.1) rfl ?_
        exact .inl ⟨HF.out, ⟨la, k, lc, 0, false⟩, rfl, H9.out.2.1, rmk_rt rfl rfl, H9.out.2.2⟩
end Go.Proofs.Ytcdbhkihbfjedaa
