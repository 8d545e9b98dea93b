/-
  Ip4Again: the walk.
-/
import Derived.Test.YtdinhgfkpjaipaaDoorKLiA
namespace Go.Proofs.YtdinhgfkpjaipaaDoor
open Go.RowKit
open I4 (H4)
open Ag6

set_option maxHeartbeats 25600000 in
set_option maxRecDepth 100000 in
theorem ip4Again.walk (w : World) (hw : Wid w) (a : Option Addr) (n cap : Nat) (z : List Int) (h : IsRow .u8 w a n cap z) (hcap : cap ≤ 1048576) (ta : Option Addr) (T tc : Nat) (rs : List Tn) (hT : List.length rs = T) (ht : ListG 2 Tn.cells (fun _ => True) w ta rs) (hTm : T ≤ 1048576) :
    Calls Tryd.prog 16 #[.slice a n cap, .slice ta T tc] w fun e w' => e = .returned (.bool true) ∧ Below w.heap.size w w' := by
  obtain ⟨bs, hl, hs, h1, h2, h3⟩ := h.bytes
  have HN : Hid (bs.length = n) := hl
  have hnm : n ≤ 1048576 := by omega
  have H256 : Hid (∀ x ∈ bs, x < 256) := h3
  have HSEG : Hid (∀ A, Below w.heap.size w A → Seg .u8 A a (toI bs)) := fun A hA => hs.old hA
  have HWID : Hid (∀ A, Below w.heap.size w A → Wid A) := fun A hA => hw.old hA
  have HPOS : Hid (0 < w.heap.size) := hw.lt
  have HT : Hid (List.length rs = T) := hT
  have HTS : Hid (∀ A, Below w.heap.size w A → ListG 2 Tn.cells (fun _ => True) A ta rs) := fun A hA => ht.old hA
  have QS : Hid _ := started_any w hw
  clear hw hl hs h1 h2 h3 h hT ht
  go_enter Tryd.func16, Tryd.ntmps16
  go_wp2_with fail
  refine Calls.mono QS.out ?_
  rintro e w1 ⟨rfl, bel1⟩
  have QC : Hid _ := copied_any a n cap bs w1 HN.out (HSEG.out w1 bel1) (by omega)
  clear QS
  go_wp2_with fail
  refine Calls.mono QC.out ?_
  rintro e w2 ⟨v, rfl, ho2, hb2⟩
  obtain ⟨va, vc, rfl⟩ := owns_shape ho2
  have bel2 := bthen bel1 hb2
  have HO2 : Hid (w2.ownsRow w.heap.size 5 1 (.slice va n vc) n ((toI bs).map (Value.int .u8))) := owns_mono ho2 bel1.size
  have QL : Hid _ := Dk.lend_any (w2.alloc (.cells #[.slice none 0 0, .int .i64 0] 60)) w2.heap.size w2.heap.size none 0 0 [] (desk_new w2 w2.heap.size (Nat.le_refl _)) va vc bs (fun x hx => (owns_at (owns_below HO2.out (((Below.refl _ _).alloc (Nat.le_refl _) _).trans hx))).1) (by rw [HN.out]; omega) (by rw [World.size_alloc]; omega)
  rw [HN.out] at QL
  have HB2 : Hid _ := bel2
  clear QC ho2 hb2 bel1 bel2
  go_wp2_with fail
  refine Calls.mono QL.out ?_
  rintro e w3 ⟨g, M, rfl, LT⟩
  have S0 : Hid (St w (w3.alloc (.cells #[.slice none 0 0, .slice none 0 0] 64)) w.heap.size w2.heap.size g M w3.heap.size n bs bs (.slice va n vc) (.slice none 0 0) (.slice none 0 0) []) := st_new HB2.out HB2.out.size HPOS.out (HWID.out w2 HB2.out) HO2.out HN.out H256.out LT
  obtain ⟨wz, hwz⟩ : ∃ wz, wz = w3.alloc (.cells #[.slice none 0 0, .slice none 0 0] 64) := ⟨_, rfl⟩
  clear QL LT
  go_wp2
  rw [← hwz] at S0 ⊢
  obtain ⟨K, hK⟩ : ∃ K, K = w3.heap.size := ⟨_, rfl⟩
  obtain ⟨D, hD⟩ : ∃ D, D = w2.heap.size := ⟨_, rfl⟩
  rw [← hK, ← hD] at S0 ⊢
  clear hwz hK hD HB2 HO2
  go_loopw [5, 9] (fun nv ix wr => ∃ (i : Nat) (l : List Nat) (na : Option Addr) (nc : Nat) (vL vW : Value) (E : List Ll.BE), i ≤ 40 ∧ nv = .slice na n nc ∧ ix = .int .i64 i ∧ Hid (St w wr w.heap.size D g M K n l l (.slice na n nc) vL vW E ∧ E.length ≤ 2 * i)) (fun _ ix _ => 40 - (intOf ix).toNat)
  case atStart => exact ⟨0, bs, va, vc, _, _, [], Nat.zero_le _, rfl, rfl, S0.out, Nat.zero_le _⟩
  case round =>
    obtain ⟨i, l, na, nc, vL, vW, E, hi, rfl, rfl, SS⟩ := hrel
    clear S0
    by_cases hc : i ≤ T ∧ i < 40
    · obtain ⟨hc1, hc2⟩ := hc
      have d1 : (i : Int) ≤ (T : Int) := by omega
      have d2 : (i : Int) < 40 := by omega
      have ST : Hid _ := SS.out.1
      have hE := SS.out.2
      have HE : Hid (E.length ≤ 2 * i) := hE
      have hM1 := ST.out.cap
      have hM2 := ST.out.le
      have QP : Hid _ := parse_u (some ⟨g, 0, none⟩) M n l wr ST.out.len ST.out.wid ST.out.seg ST.out.b256 hM2 (by omega)
      have HL256 : Hid _ := ST.out.b256
      have HLEN : Hid _ := ST.out.len
      clear hE SS
      go_wp2_with fail
      refine Calls.mono QP.out ?_
      rintro e x1 ⟨hb1, la, K1, lc, os, da, dn, dc, oe, rfl, ok1, own1, len1, le1⟩
      obtain ⟨P, hP⟩ : ∃ P, P = pP l := ⟨_, rfl⟩
      obtain ⟨er, her⟩ : ∃ er : Nat, er = I4.pE l := ⟨_, rfl⟩
      have HPP : Hid (pP l = P) := hP.symm
      have HER : Hid (I4.pE l = er) := her.symm
      rw [HPP.out] at ok1
      rw [HPP.out, HER.out]
      have HOK1 : Hid (H4Ok x1 P la K1 lc os da dn dc) := ok1
      have HOW1 : Hid (Ll.OwnO x1 wr.heap.size (.slice la K1 lc) K1 oe ∧ oe.length = K1 ∧ K1 ≤ 65535) := ⟨own1, len1, le1⟩
      clear hP her ok1 own1 len1 le1 QP
      go_wp2_with (first | (refine wpList_alloc_h4 rfl rfl ?_) | (refine wpList_store_h4 (.tmp 10) (.tmp 46) rfl rfl x1.heap.size h4z P nilS nilS (.slice la K1 lc) (.slice da dn dc) rfl rfl rfl rfl (h4At_new _ _ _ _) rfl ?_))
      intro x2 hP2 k2
      have sb2 := stored_below k2
      have S2 : Below wr.heap.size wr x2 := bthen hb1 sb2
      have HP2 : Hid (H4At x2 x1.heap.size P (.slice la K1 lc) (.slice da dn dc)) := hP2
      have ST2 : Hid _ := ST.out.below S2
      have HOK2 : Hid (H4Ok x2 P la K1 lc os da dn dc) := HOK1.out.old sb2
      have HOW2 : Hid (Ll.OwnO x2 wr.heap.size (.slice la K1 lc) K1 oe) := owns_below HOW1.out.1 sb2
      have QC : Hid _ := copied_any na n nc l x2 HLEN.out (owns_at ST2.out.now).1 (by omega)
      clear hP2 k2 sb2 hb1 HOK1
      go_wp2_with fail
      refine Calls.mono QC.out ?_
      rintro e x3 ⟨v3, rfl, ho3, hb3⟩
      obtain ⟨a3, c3, rfl⟩ := owns_shape ho3
      obtain ⟨sg3, cp3, cm3⟩ := owns_at ho3
      have QR : Hid _ := rparse_u a3 n c3 l x3 HLEN.out sg3 HL256.out cp3 cm3 hnm
      have ST3 : Hid _ := ST2.out.below hb3
      have HP3 : Hid (H4At x3 x1.heap.size P (.slice la K1 lc) (.slice da dn dc)) := H4At.below HP2.out hb3
      have HOK3 : Hid (H4Ok x3 P la K1 lc os da dn dc) := HOK2.out.old hb3
      have HOW3 : Hid (Ll.OwnO x3 wr.heap.size (.slice la K1 lc) K1 oe) := owns_below HOW2.out hb3
      have S3 : Below wr.heap.size wr x3 := bthen S2 hb3
      clear QC ho3 hb3 sg3 cp3 cm3 ST2 HP2 HOK2 HOW2 S2
      go_wp2_with fail
      refine Calls.mono QR.out ?_
      rintro e x4 ⟨hb4, lb, K2, lc2, ps, va4, vn4, vc4, rfl, ok4⟩
      rw [HPP.out] at ok4
      rw [HPP.out, HER.out]
      have ST4 : Hid _ := ST3.out.below hb4
      have HP4 : Hid (H4At x4 x1.heap.size P (.slice la K1 lc) (.slice da dn dc)) := H4At.below HP3.out hb4
      have HOK4 : Hid (H4Ok x4 P la K1 lc os da dn dc) := HOK3.out.old hb4
      have HOR4 : Hid (H4Ok x4 P lb K2 lc2 ps va4 vn4 vc4) := ok4
      have HOW4 : Hid (Ll.OwnO x4 wr.heap.size (.slice la K1 lc) K1 oe) := owns_below HOW3.out hb4
      have S4 : Below wr.heap.size wr x4 := bthen S3 hb4
      clear QR hb4 ok4 ST3 HP3 HOK3 HOW3 S3
      go_wp2_with (first | (refine wpList_alloc_h4 rfl rfl ?_) | (refine wpList_store_h4 (.tmp 12) (.tmp 52) rfl rfl x4.heap.size h4z P nilS nilS (.slice lb K2 lc2) (.slice va4 vn4 vc4) rfl rfl rfl rfl (h4At_new _ _ _ _) rfl ?_))
      intro x5 hP5 k5
      have sb5 := stored_below k5
      have ST5 : Hid _ := ST4.out.below sb5
      have HP5 : Hid (H4At x5 x1.heap.size P (.slice la K1 lc) (.slice da dn dc)) := H4At.below HP4.out sb5
      have HR5 : Hid (H4At x5 x4.heap.size P (.slice lb K2 lc2) (.slice va4 vn4 vc4)) := hP5
      have HOW5 : Hid (Ll.OwnO x5 wr.heap.size (.slice la K1 lc) K1 oe) := owns_below HOW4.out sb5
      have QM : Hid _ := same_u (HOK4.out.old sb5) (HOR4.out.old sb5)
      have S5 : Below wr.heap.size wr x5 := bthen S4 sb5
      have eqE : ((er : Int) != (er : Int)) = false := by simp
      clear hP5 k5 sb5 ST4 HP4 HOK4 HOR4 HOW4 S4
      go_wp2_with fail
      refine Calls.mono (num_any er x5) ?_
      rintro e x6 ⟨rfl, rfl⟩
      go_wp2_with (first | (refine wpList_load_h4 _ rfl x1.heap.size P (.slice la K1 lc) (.slice da dn dc) rfl HP5.out rfl ?_) | (refine wpList_load_h4 _ rfl x4.heap.size P (.slice lb K2 lc2) (.slice va4 vn4 vc4) rfl HR5.out rfl ?_))
      refine Calls.mono QM.out ?_
      rintro e x6 ⟨rfl, hb6⟩
      have ST6 : Hid _ := ST5.out.below hb6
      have HP6 : Hid (H4At x6 x1.heap.size P (.slice la K1 lc) (.slice da dn dc)) := H4At.below HP5.out hb6
      have HOW6 : Hid (Ll.OwnO x6 wr.heap.size (.slice la K1 lc) K1 oe) := owns_below HOW5.out hb6
      have S6 : Below wr.heap.size wr x6 := bthen S5 hb6
      obtain ⟨cn, hcn⟩ : ∃ cn, cn = canon l := ⟨_, rfl⟩
      have HCN : Hid (canon l = cn) := hcn.symm
      have QA : Hid _ := canonical_any (some ⟨g, 0, none⟩) M n l x6 HLEN.out ST6.out.wid ST6.out.seg HL256.out hM2 (by omega)
      rw [HCN.out] at QA
      have eqc : (cn != cn) = false := by simp
      clear hcn QM hb6 ST5 HP5 HR5 HOW5 S5
      go_wp2_with fail
      refine Calls.mono QA.out ?_
      rintro e x7 ⟨rfl, hb7⟩
      have ST7 : Hid _ := ST6.out.below hb7
      have HP7 : Hid (H4At x7 x1.heap.size P (.slice la K1 lc) (.slice da dn dc)) := H4At.below HP6.out hb7
      have HOW7 : Hid (Ll.OwnO x7 wr.heap.size (.slice la K1 lc) K1 oe) := owns_below HOW6.out hb7
      have S7 : Below wr.heap.size wr x7 := bthen S6 hb7
      obtain ⟨sg7, cp7, cm7⟩ := owns_at ST7.out.now
      have QB : Hid _ := rcanon_any na n nc l x7 HLEN.out sg7 HL256.out cp7 cm7 hnm
      rw [HCN.out] at QB
      clear QA hb7 ST6 HP6 HOW6 S6 sg7 cp7 cm7
      go_wp2_with fail
      refine Calls.mono QB.out ?_
      rintro e x8 ⟨rfl, hb8⟩
      have ST8 : Hid _ := ST7.out.below hb8
      have HP8 : Hid (H4At x8 x1.heap.size P (.slice la K1 lc) (.slice da dn dc)) := H4At.below HP7.out hb8
      have HOW8 : Hid (Ll.OwnO x8 wr.heap.size (.slice la K1 lc) K1 oe) := owns_below HOW7.out hb8
      have S8 : Below wr.heap.size wr x8 := bthen S7 hb8
      have HOX8 : Hid (∀ q, (Value.slice la K1 lc).ownBlock = some q → q < x8.heap.size) := fun q hq => (HOW8.out.lt q hq).2
      have QO : Hid _ := options_u (some ⟨g, 0, none⟩) M n l x8 HLEN.out ST8.out.seg HL256.out hM2 (by omega)
      clear QB hb8 ST7 HP7 HOW7 S7
      go_wp2_with fail
      refine Calls.mono QO.out ?_
      rintro e x9 ⟨hb9, la9, K9, lc9, os9, oe9, rfl, op9, ol9, ov9, own9, oel9, le9⟩
      have HX89 : Hid (x8.heap.size ≤ x9.heap.size) := hb9.size
      have ST9 : Hid _ := ST8.out.below hb9
      have HP9 : Hid (H4At x9 x1.heap.size P (.slice la K1 lc) (.slice da dn dc)) := H4At.below HP8.out hb9
      have HOW9 : Hid (Ll.OwnO x9 wr.heap.size (.slice la K1 lc) K1 oe) := owns_below HOW8.out hb9
      have S9 : Below wr.heap.size wr x9 := bthen S8 hb9
      have HO9 : Hid (Ll.OwnO x9 x8.heap.size (.slice la9 K9 lc9) K9 oe9 ∧ List.length oe9 = K9 ∧ K9 ≤ 65535) := ⟨own9, oel9, le9⟩
      have HV9 : Hid (OptsAt x9 la9 os9 ∧ List.length os9 = K9 ∧ vals os9 = oV l) := ⟨op9, ol9, ov9⟩
      have HS8 : Hid (wr.heap.size ≤ x8.heap.size) := S8.size
      obtain ⟨ox, hox⟩ : ∃ ox : Nat, ox = oE l := ⟨_, rfl⟩
      have HOX : Hid (oE l = ox) := hox.symm
      rw [HOX.out]
      have QC9 : Hid _ := copied_any na n nc l x9 HLEN.out (owns_at ST9.out.now).1 (by omega)
      clear QO hb9 ST8 HP8 HOW8 S8 own9 oel9 le9 op9 ol9 ov9 hox
      go_wp2_with fail
      refine Calls.mono QC9.out ?_
      rintro e y1 ⟨v10, rfl, ho10, hb10⟩
      obtain ⟨a10, c10, rfl⟩ := owns_shape ho10
      obtain ⟨sg10, cp10, cm10⟩ := owns_at ho10
      have QR10 : Hid _ := ropts_u a10 n c10 l y1 HLEN.out sg10 HL256.out cp10
      have STa : Hid _ := ST9.out.below hb10
      have Ba : Below x9.heap.size x9 y1 := hb10
      clear QC9 ho10 hb10 sg10 cp10 cm10
      go_wp2_with fail
      refine Calls.mono QR10.out ?_
      rintro e y2 ⟨hb11, lb11, K11, lc11, ps11, rfl, po11, pl11, pv11⟩
      rw [HOX.out]
      have Bb : Below x9.heap.size x9 y2 := bthen Ba hb11
      have STb : Hid _ := STa.out.below hb11
      have hK11 : K11 = K9 := by
        have e1 := congrArg List.length (HV9.out.2.2.trans pv11.symm)
        simp only [vals, List.length_map] at e1
        rw [HV9.out.2.1, pl11] at e1
        exact e1.symm
      subst hK11
      have QM2 : Hid _ := sameOpts_true la9 lb11 K11 lc9 lc11 os9 ps11 y2 (HV9.out.1.old Bb) po11 HV9.out.2.1 (HV9.out.2.2.trans pv11.symm) (by have := HO9.out.2.2; omega)
      have eqx : ((ox : Int) != (ox : Int)) = false := by simp
      clear QR10 hb11 po11 pl11 pv11 STa Ba
      go_wp2_with fail
      refine Calls.mono (num_any ox y2) ?_
      rintro e y3 ⟨rfl, rfl⟩
      go_wp2_with fail
      refine Calls.mono QM2.out ?_
      rintro e y3 ⟨rfl, hb12⟩
      have Bc : Below x9.heap.size x9 y3 := bthen Bb hb12
      have STc : Hid _ := STb.out.below hb12
      have QK : Hid _ := STc.out.back
      clear QM2 hb12 STb Bb HV9
      go_wp2_with fail
      refine Calls.mono QK.out ?_
      rintro e y4 ⟨rfl, hb13⟩
      have Bd : Below x9.heap.size x9 y4 := bthen Bc hb13
      have STd : Hid _ := STc.out.below hb13
      have HPd : Hid (H4At y4 x1.heap.size P (.slice la K1 lc) (.slice da dn dc)) := H4At.below HP9.out Bd
      have c41 := HPd.out.c41
      have HOWd : Hid (Ll.OwnO y4 wr.heap.size (.slice la K1 lc) K1 oe) := owns_below HOW9.out Bd
      have HO9d : Hid (Ll.OwnO y4 x8.heap.size (.slice la9 K11 lc9) K11 oe9) := owns_below HO9.out.1 Bd
      have Sd : Below wr.heap.size wr y4 := bthen S9 Bd
      have QKeep : Hid _ := STd.out.kept HOWd.out HOW1.out.2.1 HOW1.out.2.2 (by have := HE.out; omega) (fun q hq => ST.out.fresh q (HOWd.out.lt q hq).1) ST.out.hB
      have Z4 : Hid (x8.heap.size ≤ x9.heap.size ∧ x9.heap.size ≤ y4.heap.size) := ⟨by have := HO9.out.1; exact HX89.out, Bd.size⟩
      clear QK hb13 STc Bc HP9 HOW9 S9 ST9 Bd
      go_wp2_with fail
      refine Calls.mono QKeep.out ?_
      rintro e y5 ⟨rfl, vL1, vW1, E1, STe, hE1, ch1, new1⟩
      have HEe : Hid (E1.length = E.length + 1) := hE1
      have STE : Hid _ := STe
      have nb9 : ∀ q, (Value.slice la9 K11 lc9).ownBlock = some q → ¬ Ll.bB K vL vW E q := fun q hq => by
        have h8 := (HO9d.out.lt q hq).1
        exact (ST.out.fresh q (Nat.le_trans HS8.out h8)).2.2.2
      have HO9e : Hid (Ll.OwnO y5 x8.heap.size (.slice la9 K11 lc9) K11 oe9) := ch1.owns HO9d.out nb9
      have QKeep2 : Hid _ := STE.out.kept HO9e.out HO9.out.2.1 HO9.out.2.2 (by have := HE.out; have := HEe.out; omega) (fun q hq => by
        have h8 := (HO9d.out.lt q hq).1
        have h4 := (HO9d.out.lt q hq).2
        have hf := ST.out.fresh q (Nat.le_trans HS8.out h8)
        refine ⟨hf.1, hf.2.1, hf.2.2.1, fun hb => ?_⟩
        rcases new1 q hb with o | o | o
        · exact hf.2.2.2 o
        · have hx := (HOX8.out q o); omega
        · omega) (Nat.le_trans ST.out.hB HS8.out)
      clear QKeep STe hE1 ch1 new1 nb9 c41 HPd HOWd HO9d STd Sd HOW1
      go_wp2_with fail
      refine Calls.mono QKeep2.out ?_
      rintro e y6 ⟨rfl, vL2, vW2, E2, STf, hE2, _, _⟩
      have HE2 : Hid (E2.length ≤ 2 * i + 2) := by have := HE.out; have := HEe.out; show _ ≤ _; omega
      have STF : Hid _ := STf
      clear QKeep2 STf hE2 STE HO9e HO9 ST HEe HE Z4 HOX HS8
      by_cases hodd : i % 2 = 1
      · have o1 : ((i : Int) % 2 == 1) = true := by rw [beq_iff_eq]; omega
        have o2 : (i : Int) % 2 = 1 := by omega
        have QH : Hid _ := STF.out.hop
        obtain ⟨hq, hhq⟩ : ∃ hq : Nat, hq = hopE l := ⟨_, rfl⟩
        obtain ⟨LL, hLL⟩ : ∃ LL, LL = hopL l := ⟨_, rfl⟩
        have HHQ : Hid (hopE l = hq) := hhq.symm
        have HLL : Hid (hopL l = LL) := hLL.symm
        have HLN : Hid (LL.length = n ∧ ∀ x ∈ LL, x < 256) := by rw [hLL]; have := hopL_len l HL256.out; exact ⟨this.1.trans HLEN.out, this.2⟩
        rw [HHQ.out, HLL.out] at QH
        have eqh : ((hq : Int) != (hq : Int)) = false := by simp
        clear hhq hLL
        go_wp2_with fail
        refine Calls.mono QH.out ?_
        rintro e z1 ⟨rfl, sth⟩
        have STG : Hid _ := sth
        have QC1 : Hid _ := copied_any na n nc l z1 HLEN.out (owns_at STG.out.now).1 (by omega)
        clear QH sth STF
        go_wp2_with fail
        refine Calls.mono QC1.out ?_
        rintro e z2 ⟨v20, rfl, ho20, hb20⟩
        obtain ⟨a20, c20, rfl⟩ := owns_shape ho20
        obtain ⟨sg20, cp20, cm20⟩ := owns_at ho20
        have QR1 : Hid _ := rhop_any a20 n c20 l z2 HLEN.out sg20 HL256.out cp20 cm20 hnm
        rw [HHQ.out, HLL.out] at QR1
        have STG2 : Hid _ := STG.out.below hb20
        clear QC1 ho20 hb20 sg20 cp20 cm20 STG
        go_wp2_with fail
        refine Calls.mono QR1.out ?_
        rintro e z3 ⟨v21, rfl, hb21, ho21⟩
        obtain ⟨a21, c21, rfl⟩ := owns_shape ho21
        have STG3 : Hid _ := STG2.out.below hb21
        have QC2 : Hid _ := copied_any a21 n c21 LL z3 HLN.out.1 (owns_at ho21).1 (by omega)
        clear QR1 ho21 hb21 STG2
        go_wp2_with fail
        refine Calls.mono QC2.out ?_
        rintro e z4 ⟨v22, rfl, ho22, hb22⟩
        obtain ⟨a22, c22, rfl⟩ := owns_shape ho22
        have STG4 : Hid _ := STG3.out.renew hb22 ho22 (Nat.le_refl _) HLN.out.1 HLN.out.2
        have QK2 : Hid _ := STG4.out.back
        clear QC2 ho22 hb22 STG3
        go_wp2_with fail
        refine Calls.mono (num_any hq z4) ?_
        rintro e z5 ⟨rfl, rfl⟩
        go_wp2_with fail
        refine Calls.mono QK2.out ?_
        rintro e z5 ⟨rfl, hb23⟩
        have STH : Hid _ := STG4.out.below hb23
        clear QK2 hb23 STG4
        have wi : IntKind.i64.wrap ((i : Int) + 1) = (i : Int) + 1 := by rw [IntKind.wrap_i64]; omega
        by_cases ht : i < T
        · have t1 : (i : Int) < (T : Int) := by omega
          by_cases hn0 : 0 < n
          · have t2 : (n : Int) > 0 := by omega
            have t2' : (0 : Int) < (n : Int) := by omega
            obtain ⟨tv, htv⟩ : ∃ tv, rs[i]? = some tv := ⟨_, List.getElem?_eq_getElem (by rw [HT.out]; exact ht)⟩
            obtain ⟨_, tb, toff, hta, tlt, tcs⟩ := (HTS.out z5 STH.out.bel).at i tv htv
            obtain ⟨tp, htp⟩ : ∃ tp, tp = tv.p := ⟨_, rfl⟩
            obtain ⟨tbv, htbv⟩ : ∃ tbv, tbv = tv.b := ⟨_, rfl⟩
            have HTC : Hid (∀ A, Below w.heap.size w A → A.cell? ⟨tb, toff + i * 2, none⟩ = some (.int .i64 tp) ∧ A.cell? ⟨tb, toff + i * 2 + 1, none⟩ = some (.int .i64 tbv)) := fun A hA => by
              obtain ⟨_, tb', toff', hta', _, tcs'⟩ := (HTS.out A hA).at i tv htv
              rw [hta] at hta'
              have e := Option.some.inj hta'
              simp only [Addr.mk.injEq, and_true] at e
              obtain ⟨rfl, rfl⟩ := e
              have z0 := tcs' 0 (by decide)
              have z1 := tcs' 1 (by decide)
              rw [Nat.add_zero] at z0
              rw [htp, htbv]
              exact ⟨z0, z1⟩
            have tc0 := (HTC.out z5 STH.out.bel).1
            have tc1 := (HTC.out z5 STH.out.bel).2
            obtain ⟨sp, hsp⟩ : ∃ sp, sp = spot tp n := ⟨_, rfl⟩
            have hspl : sp < n := by rw [hsp]; exact spot_lt tp n hn0
            have QSp : Hid _ := spot_any tp n z5 hn0 hnm
            rw [← hsp] at QSp
            obtain ⟨y, hy, hy2⟩ : ∃ y : Nat, IntKind.u8.wrap tbv = (y : Int) ∧ y < 256 := ⟨(IntKind.u8.wrap tbv).toNat, by simp [IntKind.wrap, IntKind.bits, IntKind.signed]; omega, by simp [IntKind.wrap, IntKind.bits, IntKind.signed]; omega⟩
            subst hta
            clear htv tcs htp htbv hsp tlt
            have i0 : (0 : Int) ≤ (i : Int) := by omega
            have i2 : ((i : Int)).toNat = i := by omega
            have s0 : (0 : Int) ≤ (sp : Int) := by omega
            have s1 : (sp : Int) < (n : Int) := by omega
            have s2 : ((sp : Int)).toNat = sp := by omega
            go_wp2_with fail
            refine Calls.mono QSp.out ?_
            rintro e xs ⟨rfl, rfl⟩
            obtain ⟨⟨pz, pc⟩, pf, STP⟩ := STH.out.put sp y hspl hy2
            obtain ⟨qb, hqb, ⟨qz, qc⟩, qf, STQ⟩ := STP.put2 sp y hspl hy2
            subst hqb
            have STN : Hid _ := STQ
            obtain ⟨tc2, tc3⟩ := HTC.out _ STP.bel
            clear STP STQ QSp HTC STH
            go_wp2_with fail
            have QU : Hid _ := Ll.untouched_any _ w.heap.size K vL2 vW2 E2 STN.out.lists (by have := HE2.out; omega)
            refine Calls.mono QU.out ?_
            rintro e xU ⟨rfl, hbU⟩
            have STU : Hid _ := STN.out.below hbU
            clear QU hbU STN
            go_wp2
            go_roundw
            case rel => exact ⟨i + 1, _, _, _, _, _, E2, by omega, rfl, by go_num, STU.out, by have := HE2.out; omega⟩
            case measure => simp [intOf]; omega
          · have t2 : ¬ ((n : Int) > 0) := by omega
            have t2' : ¬ ((0 : Int) < (n : Int)) := by omega
            have STN : Hid _ := STH.out
            clear STH
            have QU : Hid _ := Ll.untouched_any z5 w.heap.size K vL2 vW2 E2 STN.out.lists (by have := HE2.out; omega)
            go_wp2_with fail
            refine Calls.mono QU.out ?_
            rintro e xU ⟨rfl, hbU⟩
            have STU : Hid _ := STN.out.below hbU
            clear QU hbU STN
            go_wp2
            go_roundw
            case rel => exact ⟨i + 1, _, _, _, _, _, E2, by omega, rfl, by go_num, STU.out, by have := HE2.out; omega⟩
            case measure => simp [intOf]; omega
        · have t1 : ¬ ((i : Int) < (T : Int)) := by omega
          have STN : Hid _ := STH.out
          clear STH
          have QU : Hid _ := Ll.untouched_any z5 w.heap.size K vL2 vW2 E2 STN.out.lists (by have := HE2.out; omega)
          go_wp2_with fail
          refine Calls.mono QU.out ?_
          rintro e xU ⟨rfl, hbU⟩
          have STU : Hid _ := STN.out.below hbU
          clear QU hbU STN
          go_wp2
          go_roundw
          case rel => exact ⟨i + 1, _, _, _, _, _, E2, by omega, rfl, by go_num, STU.out, by have := HE2.out; omega⟩
          case measure => simp [intOf]; omega
      · have o1 : ((i : Int) % 2 == 1) = false := by rw [beq_eq_false_iff_ne]; omega
        have o2 : ¬ ((i : Int) % 2 = 1) := by omega
        have wi : IntKind.i64.wrap ((i : Int) + 1) = (i : Int) + 1 := by rw [IntKind.wrap_i64]; omega
        by_cases ht : i < T
        · have t1 : (i : Int) < (T : Int) := by omega
          by_cases hn0 : 0 < n
          · have t2 : (n : Int) > 0 := by omega
            have t2' : (0 : Int) < (n : Int) := by omega
            obtain ⟨tv, htv⟩ : ∃ tv, rs[i]? = some tv := ⟨_, List.getElem?_eq_getElem (by rw [HT.out]; exact ht)⟩
            obtain ⟨_, tb, toff, hta, tlt, tcs⟩ := (HTS.out y6 STF.out.bel).at i tv htv
            obtain ⟨tp, htp⟩ : ∃ tp, tp = tv.p := ⟨_, rfl⟩
            obtain ⟨tbv, htbv⟩ : ∃ tbv, tbv = tv.b := ⟨_, rfl⟩
            have HTC : Hid (∀ A, Below w.heap.size w A → A.cell? ⟨tb, toff + i * 2, none⟩ = some (.int .i64 tp) ∧ A.cell? ⟨tb, toff + i * 2 + 1, none⟩ = some (.int .i64 tbv)) := fun A hA => by
              obtain ⟨_, tb', toff', hta', _, tcs'⟩ := (HTS.out A hA).at i tv htv
              rw [hta] at hta'
              have e := Option.some.inj hta'
              simp only [Addr.mk.injEq, and_true] at e
              obtain ⟨rfl, rfl⟩ := e
              have z0 := tcs' 0 (by decide)
              have z1 := tcs' 1 (by decide)
              rw [Nat.add_zero] at z0
              rw [htp, htbv]
              exact ⟨z0, z1⟩
            have tc0 := (HTC.out y6 STF.out.bel).1
            have tc1 := (HTC.out y6 STF.out.bel).2
            obtain ⟨sp, hsp⟩ : ∃ sp, sp = spot tp n := ⟨_, rfl⟩
            have hspl : sp < n := by rw [hsp]; exact spot_lt tp n hn0
            have QSp : Hid _ := spot_any tp n y6 hn0 hnm
            rw [← hsp] at QSp
            obtain ⟨y, hy, hy2⟩ : ∃ y : Nat, IntKind.u8.wrap tbv = (y : Int) ∧ y < 256 := ⟨(IntKind.u8.wrap tbv).toNat, by simp [IntKind.wrap, IntKind.bits, IntKind.signed]; omega, by simp [IntKind.wrap, IntKind.bits, IntKind.signed]; omega⟩
            subst hta
            clear htv tcs htp htbv hsp tlt
            have i0 : (0 : Int) ≤ (i : Int) := by omega
            have i2 : ((i : Int)).toNat = i := by omega
            have s0 : (0 : Int) ≤ (sp : Int) := by omega
            have s1 : (sp : Int) < (n : Int) := by omega
            have s2 : ((sp : Int)).toNat = sp := by omega
            go_wp2_with fail
            refine Calls.mono QSp.out ?_
            rintro e xs ⟨rfl, rfl⟩
            obtain ⟨⟨pz, pc⟩, pf, STP⟩ := STF.out.put sp y hspl hy2
            obtain ⟨qb, hqb, ⟨qz, qc⟩, qf, STQ⟩ := STP.put2 sp y hspl hy2
            subst hqb
            have STN : Hid _ := STQ
            obtain ⟨tc2, tc3⟩ := HTC.out _ STP.bel
            clear STP STQ QSp HTC STF
            go_wp2_with fail
            have QU : Hid _ := Ll.untouched_any _ w.heap.size K vL2 vW2 E2 STN.out.lists (by have := HE2.out; omega)
            refine Calls.mono QU.out ?_
            rintro e xU ⟨rfl, hbU⟩
            have STU : Hid _ := STN.out.below hbU
            clear QU hbU STN
            go_wp2
            go_roundw
            case rel => exact ⟨i + 1, _, _, _, _, _, E2, by omega, rfl, by go_num, STU.out, by have := HE2.out; omega⟩
            case measure => simp [intOf]; omega
          · have t2 : ¬ ((n : Int) > 0) := by omega
            have t2' : ¬ ((0 : Int) < (n : Int)) := by omega
            have STN : Hid _ := STF.out
            clear STF
            have QU : Hid _ := Ll.untouched_any y6 w.heap.size K vL2 vW2 E2 STN.out.lists (by have := HE2.out; omega)
            go_wp2_with fail
            refine Calls.mono QU.out ?_
            rintro e xU ⟨rfl, hbU⟩
            have STU : Hid _ := STN.out.below hbU
            clear QU hbU STN
            go_wp2
            go_roundw
            case rel => exact ⟨i + 1, _, _, _, _, _, E2, by omega, rfl, by go_num, STU.out, by have := HE2.out; omega⟩
            case measure => simp [intOf]; omega
        · have t1 : ¬ ((i : Int) < (T : Int)) := by omega
          have STN : Hid _ := STF.out
          clear STF
          have QU : Hid _ := Ll.untouched_any y6 w.heap.size K vL2 vW2 E2 STN.out.lists (by have := HE2.out; omega)
          go_wp2_with fail
          refine Calls.mono QU.out ?_
          rintro e xU ⟨rfl, hbU⟩
          have STU : Hid _ := STN.out.below hbU
          clear QU hbU STN
          go_wp2
          go_roundw
          case rel => exact ⟨i + 1, _, _, _, _, _, E2, by omega, rfl, by go_num, STU.out, by have := HE2.out; omega⟩
          case measure => simp [intOf]; omega
    · by_cases hT1 : i ≤ T
      · have d1 : (i : Int) ≤ (T : Int) := by omega
        have d2 : ¬ ((i : Int) < 40) := by omega
        have QE : Hid _ := Ll.settle_any wr w.heap.size K vL vW E SS.out.1.lists (by have := SS.out.2; omega) SS.out.1.hB
        go_wp2_with fail
        refine Calls.mono QE.out ?_
        rintro e wE ⟨rfl, hbE⟩
        have hfin := SS.out.1.bel.trans hbE
        go_wp2
        go_ret
        exact ⟨rfl, hfin⟩
      · have d1 : ¬ ((i : Int) ≤ (T : Int)) := by omega
        have QE : Hid _ := Ll.settle_any wr w.heap.size K vL vW E SS.out.1.lists (by have := SS.out.2; omega) SS.out.1.hB
        go_wp2_with fail
        refine Calls.mono QE.out ?_
        rintro e wE ⟨rfl, hbE⟩
        have hfin := SS.out.1.bel.trans hbE
        go_wp2
        go_ret
        exact ⟨rfl, hfin⟩
end Go.Proofs.YtdinhgfkpjaipaaDoor
