/-
  RouteAny: the walk.
-/
import Derived.Test.YtdjbfhllialinaaDoorRtRa
import Derived.Deep.CutBlock
namespace Go.Proofs.YtdjbfhllialinaaDoor
open Go.RowKit Go.Maps Go.Shelf
attribute [local go_sem] Oper.semAt_some

theorem listG_rangeI {w : World} {la : Option Addr} {rs : List IV} (h : ListG 17 ivC IOk w la rs) (k : Nat) (r : IV) (hr : rs[k]? = some r) : ∃ b off, la = some ⟨b, off, none⟩ ∧ b < w.heap.size ∧ w.rangeAt b (off + k * 17) (ipCells r.V r.x).toList := by
  obtain ⟨_, b, off, h1, h2, h3⟩ := h.at k r hr
  refine ⟨b, off, h1, h2, fun j u hj => ?_⟩
  have hj' : j < 17 := (List.getElem?_eq_some_iff.1 hj).1
  rw [h3 j hj']
  exact hj
theorem below_far {A B C : World} {b : Nat} (h : Below A.heap.size A B) (hg : B.grownBy C (some b)) (hb : A.heap.size ≤ b) : Below A.heap.size A C := h.trans ((Ch.ofGrown hg).below (fun q e => by have e' : some b = some q := e; simp at e'; omega) h.size)
theorem rte_ip {A : World} {O : Nat} {r : RV} (h : RteAt A O r) : A.rangeAt O 0 (ipCells r.p.V r.p.x).toList := by
  intro j u hj
  have hj' : j < 17 := (List.getElem?_eq_some_iff.1 hj).1
  rw [Nat.zero_add, RteAt.cell h j]
  have : j = 0 ∨ j = 1 ∨ j = 2 ∨ j = 3 ∨ j = 4 ∨ j = 5 ∨ j = 6 ∨ j = 7 ∨ j = 8 ∨ j = 9 ∨ j = 10 ∨ j = 11 ∨ j = 12 ∨ j = 13 ∨ j = 14 ∨ j = 15 ∨ j = 16 := by omega
  rcases this with rfl | rfl | rfl | rfl | rfl | rfl | rfl | rfl | rfl | rfl | rfl | rfl | rfl | rfl | rfl | rfl | rfl <;> exact hj
theorem r0_ok : ROk r0 := ⟨⟨(show (Lit.int .i64 4).wf = true by decide), (show (Lit.int .i64 8).wf = true by decide), fun j _ => by show (if j = 0 then 10 else 0) < 256; split <;> omega⟩, fun j _ => by show (0 : Nat) < 256; omega⟩
theorem r0_chk : chkR r0 = 0 := by decide +kernel
theorem TS.lenz {w : World} {t M : Nat} {R : List RV} {A : World} (h : TS w t M R A) (n : Int) (hn : (R.length : Int) = n) : Calls Tryd.prog 7 #[.pointer (some ⟨t, 0, none⟩)] A fun e A' => e = .returned (.int .i64 n) ∧ A = A' := by
  subst hn
  exact h.len
theorem wp_named {P : Program} {c : Code} {Q : Exit → Act → World → Prop} {a : Act} {w : World} (h : ∀ a0, a0 = a → c.wp P Q a0 w) : c.wp P Q a w := h a rfl
theorem RA.far {S : Nat → Prop} {w : World} {t M u Mu B4 : Nat} {Rt Ru L : List RV} {v : Value} {x : RV} {A A' : World} (h : RA w t M u Mu B4 Rt Ru L v x A) (k : Ch S A A') (hb : ∀ q, S q → w.heap.size ≤ q) (h1 : ¬ S t) (h2 : ¬ S M) (h3 : ¬ S u) (h4 : ¬ S Mu) (h5 : ¬ S B4) (h6 : ∀ g, v.ownBlock = some g → ¬ S g) : RA w t M u Mu B4 Rt Ru L v x A' :=
  { h with ft := h.ft.far k h1 h2 hb, fu := h.fu.far k h3 h4 hb, li := h.li.ch k h6, bx := RteAt.ch h.bx k h5 }
theorem RA.lts {w : World} {t M u Mu B4 : Nat} {Rt Ru L : List RV} {v : Value} {x : RV} {A : World} (h : RA w t M u Mu B4 Rt Ru L v x A) : t < A.heap.size ∧ M < A.heap.size ∧ u < A.heap.size ∧ Mu < A.heap.size ∧ B4 < A.heap.size ∧ ∀ g, v.ownBlock = some g → g < A.heap.size := by
  obtain ⟨D, hD⟩ := h.ft.tab
  obtain ⟨D', hD'⟩ := h.fu.tab
  refine ⟨hD.lt.1, hD.lt.2, hD'.lt.1, hD'.lt.2, RteAt.lt h.bx, fun g hg => ?_⟩
  obtain ⟨_, _, o, ho, _⟩ := h.li.cells g hg
  exact (Array.getElem?_eq_some_iff.1 ho).1
/-- behind Add(x): had, the route x, the table -/
def HadP (RR : List RV) (hd : Bool) (x : RV) (Rt : List RV) : Prop := ROk x ∧ ((hd = true ∧ Rt = RR) ∨ (hd = false ∧ Rt = RR ++ [x] ∧ addE RR x = 0))
set_option maxHeartbeats 12800000 in
set_option maxRecDepth 100000 in
theorem routeAny.walk (w : World) (hs : Spe8 w) (la : Option Addr) (ln lc : Nat) (rs : List RV) (hl : rs.length = ln) (hL : ListG 36 rcL ROk w la rs) (_hlb : ln ≤ 1048576) (x : RV) (hx : ROk x) (ia : Option Addr) (im ic : Nat) (is : List IV) (hi : is.length = im) (hI : ListG 17 ivC IOk w ia is) (hib : im ≤ 1048576) :
    Calls Tryd.prog 3 #[.slice la ln lc, .agg (rtC x), .slice ia im ic] w fun e w' => e = .returned (.bool true) ∧ Below w.heap.size w w' := by
  have hb := rte_new w x
  have bel : Below w.heap.size w (w.alloc (.cells (rtC x) 29)) := (Below.refl _ _).alloc (Nat.le_refl _) _
  obtain ⟨C, hC⟩ : ∃ C, C = rtC x := ⟨_, rfl⟩
  obtain ⟨W, hW⟩ : ∃ W, W = w.alloc (.cells (rtC x) 29) := ⟨_, rfl⟩
  have hsz : W.heap.size = w.heap.size + 1 := by rw [hW]; simp
  rw [← hW] at hb bel
  obtain ⟨B4, hB⟩ : ∃ B, B = w.heap.size := ⟨_, rfl⟩
  rw [← hB] at hb
  have HBX : Hid (RteAt W B4 x ∧ Below w.heap.size w W ∧ W.heap.size = B4 + 1) := ⟨hb, bel, by rw [hsz, hB]⟩
  rw [← hC] at hW ⊢
  have HB : Hid (w.heap.size = B4) := hB.symm
  have HW : Hid (w.alloc (.cells C 29) = W) := hW.symm
  have HS : Hid (Spe8 w) := hs
  have HX : Hid (ROk x) := hx
  have HI : Hid (ListG 17 ivC IOk w ia is ∧ is.length = im ∧ im ≤ 1048576) := ⟨hI, hi, hib⟩
  have QF : Hid _ := filled_any la ln lc rs W (hs.old bel) hl (hL.old bel)
  have HLO : Hid (∀ r ∈ rs, ROk r) := fun r hr => by
    obtain ⟨i, hi⟩ := List.mem_iff_getElem?.1 hr
    exact (hL.at i r hi).1
  clear hb hW hB hC hsz bel hs hL hx hI hi hib hl
  refine (callsIn_wide (n := 3)).1 ?_
  refine callsIn_of_wp_marks Tryd.func3 rfl trivial ?_ rfl
  refine wpIn_wide.2 ?_
  simp only [Tryd.ntmps3, List.size_toArray, List.length_cons, List.length_nil, Nat.reduceAdd, Nat.reduceSub, Array.replicate_succ, Array.replicate_zero, List.push_toArray, List.append_toArray, List.nil_append, List.cons_append]
  go_upto_region 1 with fail
  rw [HB.out, HW.out]
  go_wp2_with fail
  refine Calls.mono QF.out ?_
  rintro e w1 ⟨t, M, vin, rfl, hFS⟩
  obtain ⟨RR, hRR⟩ : ∃ RR, RR = fillR (rs.take 600) := ⟨_, rfl⟩
  rw [← hRR] at hFS
  have HROK : Hid ((∀ r ∈ RR, ROk r) ∧ (∀ r ∈ RR, chkR r = 0) ∧ Dj RR ∧ RR.length ≤ 256) := by
    have hok := fillR_ok (rs.take 600) (fun o ho => HLO.out o (List.mem_of_mem_take ho))
    rw [← hRR] at hok
    obtain ⟨D, hD⟩ := hFS.ts.tab
    exact ⟨fun r hr => (hok r hr).1, fun r hr => (hok r hr).2, hD.dj, by rw [hRR]; exact fillR_len _⟩
  obtain ⟨NR, hNR⟩ : ∃ NR, NR = RR.length := ⟨_, rfl⟩
  have HNR : Hid (RR.length = NR) := hNR.symm
  have hNR2 : NR ≤ 256 := by rw [hNR]; exact HROK.out.2.2.2
  obtain ⟨na, nc, hvin⟩ := hFS.li.form
  rw [← hNR] at hvin
  subst hvin
  have HFS : Hid (FS W t M RR RR (.slice na NR nc) w1) := hFS
  have QN : Hid _ := new_any w1
  clear QF hRR hFS hNR
  go_wp2_with fail
  refine Calls.mono QN.out ?_
  rintro e w2 ⟨u, Mu, rfl, hTu, hu1, hu2, b12⟩
  have HR0 : Hid (RA w t M u Mu B4 RR (RR.drop NR).reverse RR (.slice na NR nc) x w2) := by
    have hF := HFS.out
    have hbw := bthen HBX.out.2.1 hF.ts.bel
    have hlt := hF.lt
    have hWs := HBX.out.2.2
    have htl := hF.ts.tl
    have hml := hF.ts.ml
    have hbs := HB.out
    have e0 : (RR.drop NR).reverse = [] := by rw [List.drop_of_length_le (by rw [HNR.out]; exact Nat.le_refl _)]; rfl
    rw [e0]
    refine ⟨(hF.ts.base HBX.out.2.1 HS.out).below b12, ⟨⟨_, hTu⟩, bthen hbw b12, (HS.out.old hbw).old b12, by have := hbw.size; omega, by have := hbw.size; omega, HS.out.lt⟩, (hF.li.mono HBX.out.2.1.size).below b12, RteAt.below (RteAt.below HBX.out.1 hF.ts.bel) b12, ⟨by omega, by omega, by omega, by omega, by omega, by omega, by omega⟩, fun g hg => ?_, by omega⟩
    have h1 := hF.li.cells g hg
    have h2 := hF.ne g hg
    omega
  have HGN : Hid (ListG 36 rcL ROk w2 na RR) := by
    obtain ⟨va', vc', e1, e2⟩ := GL.listG (K := 36) (cells := rcL) (ok := ROk) (HR0.out.li) rcL_len HROK.out.1
    rw [HNR.out] at e1
    simp only [Value.slice.injEq, true_and] at e1
    rw [e1.1]
    exact e2
  have wn : IntKind.i64.wrap ((NR : Int) - 1) = (NR : Int) - 1 := by rw [IntKind.wrap_i64]; omega
  clear QN hTu hu1 hu2 b12 HFS HBX HW HLO
  go_wp2_with fail
  go_loopw [10] (fun ix wr => ∃ k : Nat, ix = .int .i64 ((k : Int) - 1) ∧ k ≤ NR ∧ Hid (RA w t M u Mu B4 RR (RR.drop k).reverse RR (.slice na NR nc) x wr)) (fun ix _ => (intOf ix + 1).toNat)
  case atStart => exact ⟨NR, rfl, Nat.le_refl _, HR0⟩
  case round =>
    obtain ⟨k, rfl, hk, HR⟩ := hrel
    clear HR0
    cases k with
    | succ k =>
      rw [show ((k + 1 : Nat) : Int) - 1 = (k : Int) by omega]
      have k0 : (0 : Int) ≤ (k : Int) := by omega
      have k1 : (k : Int) < (NR : Int) := by omega
      have k2 : ((k : Int)).toNat = k := by omega
      have wk : IntKind.i64.wrap ((k : Int) - 1) = (k : Int) - 1 := by rw [IntKind.wrap_i64]; omega
      obtain ⟨s, hsk⟩ : ∃ s, RR[k]? = some s := ⟨_, List.getElem?_eq_getElem (by rw [HNR.out]; omega)⟩
      have hLG : ListG 36 rcL ROk wr na RR := by
        obtain ⟨va', vc', e1, e2⟩ := GL.listG (K := 36) (cells := rcL) (ok := ROk) (HR.out.li) rcL_len HROK.out.1
        rw [HNR.out] at e1
        simp only [Value.slice.injEq, true_and] at e1
        rw [e1.1]
        exact e2
      obtain ⟨gb, go, rfl, hgb, hgr⟩ := listG_range hLG k s hsk
      have FG : Hid (wr.rangeAt gb (go + k * 36) (rtC s).toList) := hgr
      have hrev := add_rev HROK.out.2.2.1 HROK.out.2.1 HROK.out.2.2.2 k s hsk
      have QA : Hid _ := HR.out.fu.addz s (HROK.out.1 s (List.mem_of_getElem? hsk)) (by rw [List.length_reverse, List.length_drop]; have := HROK.out.2.2.2; omega) hrev.1 hrev.2
      have HKL : Hid (k < NR) := by show k < NR; omega
      clear hsk hLG hgb hgr hrev hk
      go_wp2_with (first | (refine wpList_mid_rte (.tmp 42) rfl gb (go + k * 36) s rfl FG.out rfl ?_))
      refine Calls.mono QA.out ?_
      rintro e w3 ⟨rfl, hT3, k3⟩
      have HR3 : Hid (RA w t M u Mu B4 RR (RR.drop k).reverse RR (.slice (some ⟨gb, go, none⟩) NR nc) x w3) := HR.out.addU k3 hT3
      clear hT3 k3 QA HR FG
      go_wp2_with fail
      go_roundw
      case rel => exact ⟨k, rfl, by have := HKL.out; omega, HR3⟩
      case measure => simp [intOf]
    | zero =>
      rw [show ((0 : Nat) : Int) - 1 = -1 by omega]
      clear hk
      have HR1 : Hid (RA w t M u Mu B4 RR RR.reverse RR (.slice na NR nc) x wr) := by have := HR.out; rw [List.drop_zero] at this; exact this
      clear HR
      go_wp2_with fail
      refine Calls.mono (HR1.out.fu.lenz (NR : Int) (by rw [List.length_reverse, HNR.out])) ?_
      rintro e w4 ⟨rfl, rfl⟩
      go_wp2_with fail
      refine Calls.mono (HR1.out.ft.lenz (NR : Int) (by rw [HNR.out])) ?_
      rintro e w5 ⟨rfl, rfl⟩
      go_upto_region 12 with fail
      go_cut [11] from 56 to 191 (fun hv wx => ∃ (hd : Bool) (Rt : List RV), hv = .bool hd ∧ Hid (RA w t M u Mu B4 Rt RR.reverse RR (.slice na NR nc) x wx ∧ HadP RR hd x Rt))
      case first =>
        go_wp2_with (first | (refine wpList_load_rte (.tmp 4) rfl B4 x rfl HR1.out.bx rfl ?_))
        refine Calls.mono (HR1.out.ft.add x HX.out.1 HX.out.2 (by rw [HNR.out]; omega)) ?_
        rintro e w6 ⟨rfl, hT6, k6⟩
        rcases addR_cases RR x with ⟨he, hR2⟩ | ⟨he, hR2⟩
        · rw [he]
          rw [hR2] at hT6
          have HR6 : Hid (RA w t M u Mu B4 (RR ++ [x]) RR.reverse RR (.slice na NR nc) x w6 ∧ HadP RR false x (RR ++ [x])) := ⟨HR1.out.addT k6 hT6, HX.out, .inr ⟨rfl, rfl, he⟩⟩
          clear hT6 k6 he hR2 HR1
          go_wp2_with fail
          go_meet
          exact ⟨_, _, rfl, HR6⟩
        · obtain ⟨q, hq⟩ : ∃ q, q = addE RR x := ⟨_, rfl⟩
          rw [← hq] at he ⊢
          rw [hR2] at hT6
          have hq0 : ((q : Int) == 0) = false := by simpa using he
          have hq1 : ¬ (q : Int) = 0 := by omega
          have hq2 : ((q : Int) != 0) = true := by simpa using he
          have HR6 : Hid (RA w t M u Mu B4 RR RR.reverse RR (.slice na NR nc) x w6 ∧ HadP RR true x RR) := ⟨HR1.out.addT k6 hT6, HX.out, .inl ⟨rfl, rfl⟩⟩
          clear hT6 k6 hR2 hq HR1
          go_wp2_with fail
          go_meet
          exact ⟨true, _, by simp, HR6⟩
      case rest =>
        obtain ⟨hd, Rt, rfl, HC⟩ := hcut
        clear HR1
        go_upto_region 13 with fail
        go_cut [65] from 60 to 191 (fun bb wx => bb = .bool (decide (NR = 0) && hd) ∧ Hid (RA w t M u Mu B4 Rt RR.reverse RR (.slice na NR nc) x wx ∧ HadP RR hd x Rt))
        case first =>
          by_cases hz : NR = 0
          · have hz1 : ((NR : Int) == 0) = true := by simpa using hz
            have hz3 : decide (NR = 0) = true := by simpa using hz
            have HZ3 : Hid _ := hz3
            clear hz3
            go_wp2_with fail
            go_meet
            exact ⟨by rw [HZ3.out]; cases hd <;> rfl, HC⟩
          · have hz1 : ((NR : Int) == 0) = false := by simpa using hz
            have hz2 : ¬ (NR : Int) = 0 := by omega
            have hz3 : decide (NR = 0) = false := by simpa using hz
            have HZ3 : Hid _ := hz3
            clear hz3
            go_wp2_with fail
            go_meet
            exact ⟨by rw [HZ3.out]; cases hd <;> rfl, HC⟩
        case rest =>
        obtain ⟨rfl, HC2⟩ := hcut
        clear HC
        have HC : Hid _ := HC2.out
        clear HC2
        go_upto_if 65 with fail
        go_cut [11] from 65 to 191 (fun hv wx => ∃ (hd : Bool) (xx : RV) (Rt : List RV), hv = .bool hd ∧ Hid (RA w t M u Mu B4 Rt RR.reverse RR (.slice na NR nc) xx wx ∧ HadP RR hd xx Rt))
        case first =>
          by_cases hz : NR = 0
          · have hz3 : decide (NR = 0) = true := by simpa using hz
            rw [hz3]
            cases hd with
            | false =>
              simp only [Bool.and_false]
              go_wp2_with fail
              go_meet
              exact ⟨_, _, _, rfl, HC⟩
            | true =>
              simp only [Bool.and_true]
              have HZ : Hid (RR = []) := List.eq_nil_of_length_eq_zero (by rw [HNR.out]; exact hz)
              clear hz hz3
              have HRt : Hid (Rt = RR) := by
                rcases HC.out.2.2 with e | e
                · exact e.2
                · cases e.1
              have H0E : Hid (addE RR r0 = 0 ∧ addR RR r0 = RR ++ [r0]) := by
                have e : addE RR r0 = 0 := by
                  rw [HZ.out]
                  unfold addE
                  rw [if_pos r0_chk]
                  simp [fnd]
                exact ⟨e, by unfold addR; rw [if_pos e]⟩
              have HRA : Hid (RA w t M u Mu B4 RR RR.reverse RR (.slice na NR nc) x wc) := by have h1 := HC.out.1; rw [HRt.out] at h1; exact h1
              clear HC HRt
              go_wp2_with fail
              refine Calls.mono (route0_any _) ?_
              rintro e w7 ⟨rfl, b7⟩
              have H7 : Hid (RA w t M u Mu B4 RR RR.reverse RR (.slice na NR nc) x w7) := HRA.out.below b7
              clear b7 HRA
              obtain ⟨q0, hq0⟩ : ∃ q0, q0 = r0 := ⟨_, rfl⟩
              rw [← hq0] at H0E ⊢
              have HQ0 : Hid (q0 = r0) := hq0
              clear hq0
              go_wp2_with fail
              refine Calls.mono (H7.out.ft.addz q0 (by rw [HQ0.out]; exact r0_ok) (by rw [HNR.out]; omega) H0E.out.1 H0E.out.2) ?_
              rintro e w8 ⟨rfl, hT8, k8⟩
              have H8 : Hid (RA w t M u Mu B4 (RR ++ [q0]) RR.reverse RR (.slice na NR nc) x w8) := H7.out.addT k8 hT8
              clear hT8 k8 H7
              go_wp2_with fail
              refine Calls.mono (route0_any _) ?_
              rintro e w9 ⟨rfl, b9⟩
              rw [← HQ0.out]
              have H9 : Hid (RA w t M u Mu B4 (RR ++ [q0]) RR.reverse RR (.slice na NR nc) x w9) := H8.out.below b9
              clear b9 H8
              go_wp2_with (first | (refine wpList_store_rte (.tmp 4) (.tmp 71) rfl rfl B4 x q0 rfl rfl H9.out.bx rfl ?_))
              intro w10 hR10 k10
              have H10 : Hid (RA w t M u Mu B4 (RR ++ [q0]) RR.reverse RR (.slice na NR nc) q0 w10 ∧ HadP RR false q0 (RR ++ [q0])) := ⟨H9.out.setX k10 hR10, by rw [HQ0.out]; exact r0_ok, .inr ⟨rfl, rfl, H0E.out.1⟩⟩
              clear hR10 k10 H9
              go_wp2_with fail
              go_meet
              exact ⟨_, _, _, rfl, H10⟩
          · have hz3 : decide (NR = 0) = false := by simpa using hz
            rw [hz3]
            simp only [Bool.false_and]
            go_wp2_with fail
            go_meet
            exact ⟨_, _, _, rfl, HC⟩
        case rest =>
          obtain ⟨hd, xx, Rt, rfl, HD⟩ := hcut
          clear HC
          have bz : Below wc.heap.size wc (wc.alloc (.cells (ipCells xx.p.V xx.p.x) 25)) := (Below.refl _ _).alloc (Nat.le_refl _) _
          have HBz : Hid (Below w.heap.size w (wc.alloc (.cells (ipCells xx.p.V xx.p.x) 25))) := bthen HD.out.1.ft.bel bz
          clear bz
          obtain ⟨ix0, hix0⟩ : ∃ i : IV, i = ⟨xx.p.V, xx.p.x⟩ := ⟨_, rfl⟩
          have HIX : Hid (IOk ix0 ∧ ivC ix0 = (ipCells xx.p.V xx.p.x).toList) := by rw [hix0]; exact ⟨⟨HD.out.2.1.1.v, HD.out.2.1.1.x⟩, rfl⟩
          clear hix0
          go_wp2_with (first | (refine wpList_mid_ipr (.tmp 73) rfl B4 0 xx.p.V xx.p.x rfl (rte_ip HD.out.1.bx) rfl ?_) | (refine wpList_bsi (.tmp 74) rfl xx.p.V xx.p.x rfl rfl ?_) | (refine wpList_appG (K := 17) (cells := ivC) ivC_len (fun o => ivC_one o) (by decide) rfl (.tmp 75) (.tmp 76) 30 25 rfl Tryd.underlying30 Tryd.infoI wc.heap.size (.slice (some ⟨wc.heap.size, 0, none⟩) 1 1) [ix0] rfl (GL.new1 wc 25 17 (ipCells xx.p.V xx.p.x) ix0 HIX.out.2 rfl) IOk ia ic is (by rw [HI.out.2.1]; rfl) (HI.out.1.old HBz.out) (by simp) (by rw [HI.out.2.1]; exact HI.out.2.2) (by simp) ?_))
          intro v6 Z hGL6 hg6 _
          have bZ : Below wc.heap.size wc Z := below_far ((Below.refl _ _).alloc (Nat.le_refl _) _) hg6 (Nat.le_refl _)
          obtain ⟨pa, pc, hv6, hG6⟩ := hGL6.listG (ok := IOk) ivC_len (by
            intro o ho
            rcases List.mem_cons.1 ho with h | h
            · rw [h]; exact HIX.out.1
            · obtain ⟨i, hi⟩ := List.mem_iff_getElem?.1 h
              exact (HI.out.1.at i o hi).1)
          subst hv6
          obtain ⟨ips, hips⟩ : ∃ ips, ips = ix0 :: is := ⟨_, rfl⟩
          obtain ⟨NI, hNI⟩ : ∃ NI, NI = is.length + 1 := ⟨_, rfl⟩
          rw [← hips] at hG6
          (try simp only [List.length_cons])
          rw [← hNI]
          have HNI : Hid (ips.length = NI) := by show _ = _; rw [hNI, hips]; rfl
          have HZ : Hid (RA w t M u Mu B4 Rt RR.reverse RR (.slice na NR nc) xx Z ∧ ListG 17 ivC IOk Z pa ips) := ⟨HD.out.1.below bZ, hG6⟩
          have HHP : Hid (HadP RR hd xx Rt) := HD.out.2
          have HTAB : Hid (Dj Rt ∧ ∀ r ∈ Rt, vpE r.p = 0) := by
            obtain ⟨D, hDD⟩ := HD.out.1.ft.tab
            refine ⟨hDD.dj, fun r hr => ?_⟩
            rcases HD.out.2.2 with ⟨_, e⟩ | ⟨_, e, e2⟩
            · rw [e] at hr; exact chk_vp (HROK.out.2.1 r hr)
            · rw [e] at hr
              rcases List.mem_append.1 hr with h | h
              · exact chk_vp (HROK.out.2.1 r h)
              · simp only [List.mem_singleton] at h; subst h; exact chk_vp (addE_zero e2).1
          clear hGL6 hg6 bZ hG6 hips hNI HBz HD HI HIX
          go_upto_block 2 with fail
          go_cut [12, 13, 14, 15, 16] from 78 to 191 (fun _ _ _ _ _ wx => Hid (Below Z.heap.size Z wx))
          case first =>
            go_wp2_with fail
            go_loopw [12] (fun ix wr => ∃ i : Nat, ix = .int .i64 i ∧ i ≤ NI ∧ i ≤ 60 ∧ Hid (Below Z.heap.size Z wr)) (fun ix _ => 60 - (intOf ix).toNat)
            case atStart => exact ⟨0, rfl, Nat.zero_le _, by omega, Below.refl _ _⟩
            case round =>
              obtain ⟨i, rfl, hiN, hi60, HWr⟩ := hrel
              by_cases hlt : i < NI
              · have q0 : (0 : Int) ≤ (i : Int) := by omega
                have q1 : (i : Int) < (NI : Int) := by omega
                have q2 : ((i : Int)).toNat = i := by omega
                by_cases h60 : i < 60
                · have q6 : (i : Int) < 60 := by omega
                  obtain ⟨p, hp⟩ : ∃ p, ips[i]? = some p := ⟨_, List.getElem?_eq_getElem (by rw [HNI.out]; exact hlt)⟩
                  obtain ⟨pb, po, rfl, hpb, hprg⟩ := listG_rangeI HZ.out.2 i p hp
                  obtain ⟨V, xv⟩ := p
                  have HPK : Hid (IOk ⟨V, xv⟩) := (HZ.out.2.at i _ hp).1
                  have FI : Hid (∀ A, Below Z.heap.size Z A → A.rangeAt pb (po + i * 17) (ipCells V xv).toList) := fun A hA => range_old hprg hA hpb
                  have wi : IntKind.i64.wrap ((i : Int) + 1) = (i : Int) + 1 := by rw [IntKind.wrap_i64]; omega
                  have HIK : Hid (i < NI ∧ i < 60) := ⟨hlt, h60⟩
                  obtain ⟨ra, hra⟩ : ∃ r, r = (fIP Rt V xv).getD rz := ⟨_, rfl⟩
                  obtain ⟨si, hsi⟩ : ∃ s, s = (fIP Rt V xv).isSome := ⟨_, rfl⟩
                  obtain ⟨rb, hrb⟩ : ∃ r, r = (fIP RR.reverse V xv).getD rz := ⟨_, rfl⟩
                  obtain ⟨ti, hti⟩ : ∃ s, s = (fIP RR.reverse V xv).isSome := ⟨_, rfl⟩
                  obtain ⟨cb, hcb⟩ : ∃ b, b = conB xx.p V xv := ⟨_, rfl⟩
                  have HSAME : Hid ((hd = true ∨ cb = false → ra = rb ∧ si = ti) ∧ (hd = false → cb = true → si = true ∧ ¬ ra.p.n < xx.p.n)) := by
                    have hrev : fIP RR.reverse V xv = fIP RR V xv := fIP_same (List.pairwise_reverse.2 (HROK.out.2.2.1.imp (fun {a b} h => by rw [eqP_comm]; exact h))) HROK.out.2.2.1 (fun s => List.mem_reverse) V xv
                    refine ⟨fun hc => ?_, fun h1 h2 => ?_⟩
                    · have e : fIP Rt V xv = fIP RR V xv := by
                        rcases HHP.out.2 with ⟨_, e⟩ | ⟨e0, e, e2⟩
                        · rw [e]
                        · rw [e]
                          rcases hc with h | h
                          · rw [h] at e0; cases e0
                          · exact fIP_add (chk_vp (addE_zero e2).1) V xv (by rw [← hcb]; exact h)
                      rw [hra, hrb, hsi, hti, hrev, e]
                      exact ⟨rfl, rfl⟩
                    · rcases HHP.out.2 with ⟨e0, _⟩ | ⟨_, e, _⟩
                      · rw [h1] at e0; cases e0
                      · have := lo_hit HTAB.out.2 HTAB.out.1 (s := xx) (by rw [e]; simp) (V := V) (x := xv) (by rw [← hcb]; exact h2)
                        rw [hra, hsi]
                        exact ⟨this.1, by omega⟩
                  have QT : Hid (Calls Tryd.prog 9 #[.pointer (some ⟨t, 0, none⟩), .agg (ipCells V xv)] wr fun e A' => e = .returned (.tuple #[.agg (rtC ra), .bool si]) ∧ Below wr.heap.size wr A') := by
                    rw [hra, hsi]
                    exact (HZ.out.1.ft.below HWr.out).find V xv HPK.out.1 HPK.out.2
                  have QU : Hid (∀ A, Below Z.heap.size Z A → Calls Tryd.prog 9 #[.pointer (some ⟨u, 0, none⟩), .agg (ipCells V xv)] A fun e A' => e = .returned (.tuple #[.agg (rtC rb), .bool ti]) ∧ Below A.heap.size A A') := fun A hA => by
                    rw [hrb, hti]
                    exact (HZ.out.1.fu.below hA).find V xv HPK.out.1 HPK.out.2
                  have QC : Hid (∀ A, Calls Tryd.prog 10 #[.agg (pfC xx.p), .agg (ipCells V xv)] A fun e w' => e = .returned (.bool cb) ∧ Below A.heap.size A w') := fun A => by
                    rw [hcb]
                    exact contains_any xx.p V xv A HHP.out.1.1.x HPK.out.2
                  clear hp hpb hprg hiN hi60 hra hsi hrb hti hcb
                  go_wp2_with (first | (refine wpList_mid_ipr (.tmp 92) rfl pb (po + i * 17) V xv rfl (FI.out _ HWr.out) rfl ?_))
                  refine Calls.mono QT.out ?_
                  rintro e x1 ⟨rfl, c1⟩
                  have HX1 : Hid (Below Z.heap.size Z x1) := bthen HWr.out c1
                  clear c1 QT HWr
                  go_wp2_with (first | (refine wpList_alloc_rte rfl rfl ?_) | (refine wpList_store_rte (.tmp 13) (.tmp 95) rfl rfl x1.heap.size rz ra rfl rfl (rte_new x1 rz) rfl ?_))
                  intro x2 hR2 k2
                  have bz : Below x1.heap.size x1 (x1.alloc (.cells (rtC rz) 29)) := (Below.refl _ _).alloc (Nat.le_refl _) _
                  have b2 : Below x1.heap.size x1 x2 := bz.trans (k2.below (fun q e => by have e' : q = x1.heap.size := e; omega) bz.size)
                  obtain ⟨O13, hO13⟩ : ∃ O, O = x1.heap.size := ⟨_, rfl⟩
                  rw [← hO13] at hR2 ⊢
                  have HX2 : Hid (Below Z.heap.size Z x2 ∧ RteAt x2 O13 ra) := ⟨bthen HX1.out b2, hR2⟩
                  clear hR2 k2 bz b2 hO13 HX1
                  go_wp2_with (first | (refine wpList_mid_ipr (.tmp 101) rfl pb (po + i * 17) V xv rfl (FI.out _ HX2.out.1) rfl ?_))
                  refine Calls.mono (QU.out _ HX2.out.1) ?_
                  rintro e x3 ⟨rfl, c3⟩
                  have HX3 : Hid (Below Z.heap.size Z x3 ∧ RteAt x3 O13 ra) := ⟨bthen HX2.out.1 c3, RteAt.below HX2.out.2 c3⟩
                  clear c3 QU HX2
                  go_wp2_with (first | (refine wpList_alloc_rte rfl rfl ?_) | (refine wpList_store_rte (.tmp 15) (.tmp 104) rfl rfl x3.heap.size rz rb rfl rfl (rte_new x3 rz) rfl ?_))
                  intro x4 hR4 k4
                  have bz : Below x3.heap.size x3 (x3.alloc (.cells (rtC rz) 29)) := (Below.refl _ _).alloc (Nat.le_refl _) _
                  have b4 : Below x3.heap.size x3 x4 := bz.trans (k4.below (fun q e => by have e' : q = x3.heap.size := e; omega) bz.size)
                  obtain ⟨O15, hO15⟩ : ∃ O, O = x3.heap.size := ⟨_, rfl⟩
                  rw [← hO15] at hR4 ⊢
                  have HX4 : Hid (Below Z.heap.size Z x4 ∧ RteAt x4 O13 ra ∧ RteAt x4 O15 rb ∧ RteAt x4 B4 xx) := ⟨bthen HX3.out.1 b4, RteAt.below HX3.out.2 b4, hR4, RteAt.below (RteAt.below HZ.out.1.bx HX3.out.1) b4⟩
                  clear hR4 k4 bz b4 hO15 HX3
                  have FX : Hid (∀ A, Below x4.heap.size x4 A → RteAt A O13 ra ∧ RteAt A O15 rb ∧ RteAt A B4 xx ∧ A.rangeAt pb (po + i * 17) (ipCells V xv).toList ∧ Below Z.heap.size Z A) := fun A hA => ⟨RteAt.below HX4.out.2.1 hA, RteAt.below HX4.out.2.2.1 hA, RteAt.below HX4.out.2.2.2 hA, FI.out A (bthen HX4.out.1 hA), bthen HX4.out.1 hA⟩
                  clear HX4 FI
                  cases hd with
                  | true =>
                    obtain ⟨e1, e2⟩ := HSAME.out.1 (.inl rfl)
                    subst e1 e2
                    have HEQ : Hid ((!(eqR ra ra)) = false) := by show (!(eqR ra ra)) = false; rw [eqR_refl]; rfl
                    clear HSAME
                    go_wp2_with fail
                    refine MixH.start (fun A => Below x4.heap.size x4 A) (by kernel_rfl) ?_
                    obtain ⟨wA, hwA⟩ : ∃ wA, wA = x4.drew := ⟨_, rfl⟩
                    have hS : Below x4.heap.size x4 wA := by rw [hwA]; exact bthen (Below.refl _ _) (Below.refl _ _).drew
                    rw [← hwA]
                    clear hwA
                    refine MixH.takes [true, true] 19 (by kernel_rfl) (by kernel_rfl) (by decide) (by kernel_rfl) hS (fun K hK => ?_)
                    simp only [Mix.pick]
                    repeat (go_big_quiet_step (fail))
                    refine wpQuiet_nil (hK _ ?_)
                    clear hK K
                    refine MixH.take 18 2 _ (undef) rfl (by kernel_rfl) (by kernel_rfl) (by kernel_rfl) (by kernel_rfl) (.inr ⟨rfl, rfl⟩) hS (fun a' ha => ?_)
                    simp only [Act.put, List.setIfInBounds_toArray, List.set_cons_succ, List.set_cons_zero] at ha
                    subst ha
                    refine MixH.take 17 3 _ (undef) rfl (by kernel_rfl) (by kernel_rfl) (by kernel_rfl) (by kernel_rfl) (.inr ⟨rfl, rfl⟩) hS (fun a' ha => ?_)
                    simp only [Act.put, List.setIfInBounds_toArray, List.set_cons_succ, List.set_cons_zero] at ha
                    subst ha
                    refine MixH.take 16 4 _ (undef) rfl (by kernel_rfl) (by kernel_rfl) (by kernel_rfl) (by kernel_rfl) (.inr ⟨rfl, rfl⟩) hS (fun a' ha => ?_)
                    simp only [Act.put, List.setIfInBounds_toArray, List.set_cons_succ, List.set_cons_zero] at ha
                    subst ha
                    refine MixH.take 15 5 _ (undef) rfl (by kernel_rfl) (by kernel_rfl) (by kernel_rfl) (by kernel_rfl) (.inr ⟨rfl, rfl⟩) hS (fun a' ha => ?_)
                    simp only [Act.put, List.setIfInBounds_toArray, List.set_cons_succ, List.set_cons_zero] at ha
                    subst ha
                    refine MixH.take 14 6 _ (undef) rfl (by kernel_rfl) (by kernel_rfl) (by kernel_rfl) (by kernel_rfl) (.inr ⟨rfl, rfl⟩) hS (fun a' ha => ?_)
                    simp only [Act.put, List.setIfInBounds_toArray, List.set_cons_succ, List.set_cons_zero] at ha
                    subst ha
                    refine MixH.take 13 7 _ (undef) rfl (by kernel_rfl) (by kernel_rfl) (by kernel_rfl) (by kernel_rfl) (.inr ⟨rfl, rfl⟩) hS (fun a' ha => ?_)
                    simp only [Act.put, List.setIfInBounds_toArray, List.set_cons_succ, List.set_cons_zero] at ha
                    subst ha
                    refine MixH.take 12 8 _ (undef) rfl (by kernel_rfl) (by kernel_rfl) (by kernel_rfl) (by kernel_rfl) (.inr ⟨rfl, rfl⟩) hS (fun a' ha => ?_)
                    simp only [Act.put, List.setIfInBounds_toArray, List.set_cons_succ, List.set_cons_zero] at ha
                    subst ha
                    refine MixH.take 11 9 _ (undef) rfl (by kernel_rfl) (by kernel_rfl) (by kernel_rfl) (by kernel_rfl) (.inr ⟨rfl, rfl⟩) hS (fun a' ha => ?_)
                    simp only [Act.put, List.setIfInBounds_toArray, List.set_cons_succ, List.set_cons_zero] at ha
                    subst ha
                    refine MixH.takes [false, false, false, false, false, false, false, false, false, false, true, true] 9 (by kernel_rfl) (by kernel_rfl) (by decide) (by kernel_rfl) hS (fun K hK => ?_)
                    simp only [Mix.pick]
                    repeat (go_big_quiet_step (fail))
                    refine wpQuiet_nil (hK _ ?_)
                    clear hK K
                    refine MixH.take 8 12 _ (.agg (rtC ra)) rfl (by kernel_rfl) (by kernel_rfl) (by kernel_rfl) (by kernel_rfl) (yields_rte (.tmp 13) rfl O13 0 ra rfl rfl (fun A hA => (FX.out A hA).1.all)) hS (fun a' ha => ?_)
                    simp only [Act.put, List.setIfInBounds_toArray, List.set_cons_succ, List.set_cons_zero] at ha
                    subst ha
                    refine MixH.take 7 13 _ (.agg (rtC ra)) rfl (by kernel_rfl) (by kernel_rfl) (by kernel_rfl) (by kernel_rfl) (yields_rte (.tmp 15) rfl O15 0 ra rfl rfl (fun A hA => (FX.out A hA).2.1.all)) hS (fun a' ha => ?_)
                    simp only [Act.put, List.setIfInBounds_toArray, List.set_cons_succ, List.set_cons_zero] at ha
                    subst ha
                    refine MixH.one [false, false, false, false, false, false, false, false, false, false, false, false, false, false, true] 6 14 _ rfl rfl (by kernel_rfl) (by kernel_rfl) (fun K hK => ?_)
                    simp only [Mix.pick]
                    refine wpList_neq_rt (.tmp 118) (.tmp 119) rfl ra ra rfl rfl false HEQ.out rfl ?_
                    go_wp2_with fail
                    refine ⟨rfl, hK _ _ hS ?_⟩
                    clear hK K
                    refine MixH.takes [false, false, false, false, false, false, false, false, false, false, false, false, false, false, false, true, true, true, true, true] 1 (by kernel_rfl) (by kernel_rfl) (by decide) (by kernel_rfl) hS (fun K hK => ?_)
                    simp only [Mix.pick]
                    repeat (go_big_quiet_step (fail))
                    refine wpQuiet_nil (hK _ ?_)
                    clear hK K
                    refine MixH.takes [false, false, false, false, false, false, false, false, false, false, false, false, false, false, false, false, false, false, false, false, true] 0 (by kernel_rfl) (by kernel_rfl) (by decide) (by kernel_rfl) hS (fun K hK => ?_)
                    simp only [Mix.pick]
                    repeat (go_big_quiet_step (fail))
                    refine wpQuiet_nil (hK _ ?_)
                    clear hK K
                    refine MixH.done (by kernel_rfl) ?_
                    obtain ⟨wT, hwT⟩ : ∃ wT, wT = wA := ⟨_, rfl⟩
                    rw [← hwT] at hS ⊢
                    have HY : Hid (Below x4.heap.size x4 wT) := hS
                    clear hS hwT
                    go_wp2_with fail
                    refine MixH.start (fun A => Below x4.heap.size x4 A) (by kernel_rfl) ?_
                    obtain ⟨wA, hwA⟩ : ∃ wA, wA = wT.drew := ⟨_, rfl⟩
                    have hS : Below x4.heap.size x4 wA := by rw [hwA]; exact bthen HY.out (Below.refl _ _).drew
                    rw [← hwA]
                    clear hwA
                    refine MixH.takes [true, true, true] 21 (by kernel_rfl) (by kernel_rfl) (by decide) (by kernel_rfl) hS (fun K hK => ?_)
                    simp only [Mix.pick]
                    repeat (go_big_quiet_step (fail))
                    refine wpQuiet_nil (hK _ ?_)
                    clear hK K
                    refine MixH.take 20 3 _ (undef) rfl (by kernel_rfl) (by kernel_rfl) (by kernel_rfl) (by kernel_rfl) (.inr ⟨rfl, rfl⟩) hS (fun a' ha => ?_)
                    simp only [Act.put, List.setIfInBounds_toArray, List.set_cons_succ, List.set_cons_zero] at ha
                    subst ha
                    refine MixH.take 19 4 _ (undef) rfl (by kernel_rfl) (by kernel_rfl) (by kernel_rfl) (by kernel_rfl) (.inr ⟨rfl, rfl⟩) hS (fun a' ha => ?_)
                    simp only [Act.put, List.setIfInBounds_toArray, List.set_cons_succ, List.set_cons_zero] at ha
                    subst ha
                    refine MixH.take 18 5 _ (undef) rfl (by kernel_rfl) (by kernel_rfl) (by kernel_rfl) (by kernel_rfl) (.inr ⟨rfl, rfl⟩) hS (fun a' ha => ?_)
                    simp only [Act.put, List.setIfInBounds_toArray, List.set_cons_succ, List.set_cons_zero] at ha
                    subst ha
                    refine MixH.take 17 6 _ (undef) rfl (by kernel_rfl) (by kernel_rfl) (by kernel_rfl) (by kernel_rfl) (.inr ⟨rfl, rfl⟩) hS (fun a' ha => ?_)
                    simp only [Act.put, List.setIfInBounds_toArray, List.set_cons_succ, List.set_cons_zero] at ha
                    subst ha
                    refine MixH.take 16 7 _ (undef) rfl (by kernel_rfl) (by kernel_rfl) (by kernel_rfl) (by kernel_rfl) (.inr ⟨rfl, rfl⟩) hS (fun a' ha => ?_)
                    simp only [Act.put, List.setIfInBounds_toArray, List.set_cons_succ, List.set_cons_zero] at ha
                    subst ha
                    refine MixH.take 15 8 _ (undef) rfl (by kernel_rfl) (by kernel_rfl) (by kernel_rfl) (by kernel_rfl) (.inr ⟨rfl, rfl⟩) hS (fun a' ha => ?_)
                    simp only [Act.put, List.setIfInBounds_toArray, List.set_cons_succ, List.set_cons_zero] at ha
                    subst ha
                    refine MixH.take 14 9 _ (undef) rfl (by kernel_rfl) (by kernel_rfl) (by kernel_rfl) (by kernel_rfl) (.inr ⟨rfl, rfl⟩) hS (fun a' ha => ?_)
                    simp only [Act.put, List.setIfInBounds_toArray, List.set_cons_succ, List.set_cons_zero] at ha
                    subst ha
                    refine MixH.takes [false, false, false, false, false, false, false, false, false, false, true, true] 12 (by kernel_rfl) (by kernel_rfl) (by decide) (by kernel_rfl) hS (fun K hK => ?_)
                    simp only [Mix.pick]
                    repeat (go_big_quiet_step (fail))
                    refine wpQuiet_nil (hK _ ?_)
                    clear hK K
                    refine MixH.take 11 12 _ (undef) rfl (by kernel_rfl) (by kernel_rfl) (by kernel_rfl) (by kernel_rfl) (.inr ⟨rfl, rfl⟩) hS (fun a' ha => ?_)
                    simp only [Act.put, List.setIfInBounds_toArray, List.set_cons_succ, List.set_cons_zero] at ha
                    subst ha
                    refine MixH.take 10 13 _ (undef) rfl (by kernel_rfl) (by kernel_rfl) (by kernel_rfl) (by kernel_rfl) (.inr ⟨rfl, rfl⟩) hS (fun a' ha => ?_)
                    simp only [Act.put, List.setIfInBounds_toArray, List.set_cons_succ, List.set_cons_zero] at ha
                    subst ha
                    refine MixH.take 9 14 _ (undef) rfl (by kernel_rfl) (by kernel_rfl) (by kernel_rfl) (by kernel_rfl) (.inr ⟨rfl, rfl⟩) hS (fun a' ha => ?_)
                    simp only [Act.put, List.setIfInBounds_toArray, List.set_cons_succ, List.set_cons_zero] at ha
                    subst ha
                    refine MixH.take 8 15 _ (undef) rfl (by kernel_rfl) (by kernel_rfl) (by kernel_rfl) (by kernel_rfl) (.inr ⟨rfl, rfl⟩) hS (fun a' ha => ?_)
                    simp only [Act.put, List.setIfInBounds_toArray, List.set_cons_succ, List.set_cons_zero] at ha
                    subst ha
                    refine MixH.take 7 16 _ (undef) rfl (by kernel_rfl) (by kernel_rfl) (by kernel_rfl) (by kernel_rfl) (.inr ⟨rfl, rfl⟩) hS (fun a' ha => ?_)
                    simp only [Act.put, List.setIfInBounds_toArray, List.set_cons_succ, List.set_cons_zero] at ha
                    subst ha
                    refine MixH.take 6 17 _ (undef) rfl (by kernel_rfl) (by kernel_rfl) (by kernel_rfl) (by kernel_rfl) (.inr ⟨rfl, rfl⟩) hS (fun a' ha => ?_)
                    simp only [Act.put, List.setIfInBounds_toArray, List.set_cons_succ, List.set_cons_zero] at ha
                    subst ha
                    refine MixH.take 5 18 _ (undef) rfl (by kernel_rfl) (by kernel_rfl) (by kernel_rfl) (by kernel_rfl) (.inr ⟨rfl, rfl⟩) hS (fun a' ha => ?_)
                    simp only [Act.put, List.setIfInBounds_toArray, List.set_cons_succ, List.set_cons_zero] at ha
                    subst ha
                    refine MixH.take 4 19 _ (undef) rfl (by kernel_rfl) (by kernel_rfl) (by kernel_rfl) (by kernel_rfl) (.inr ⟨rfl, rfl⟩) hS (fun a' ha => ?_)
                    simp only [Act.put, List.setIfInBounds_toArray, List.set_cons_succ, List.set_cons_zero] at ha
                    subst ha
                    refine MixH.take 3 20 _ (undef) rfl (by kernel_rfl) (by kernel_rfl) (by kernel_rfl) (by kernel_rfl) (.inr ⟨rfl, rfl⟩) hS (fun a' ha => ?_)
                    simp only [Act.put, List.setIfInBounds_toArray, List.set_cons_succ, List.set_cons_zero] at ha
                    subst ha
                    refine MixH.take 2 21 _ (undef) rfl (by kernel_rfl) (by kernel_rfl) (by kernel_rfl) (by kernel_rfl) (.inr ⟨rfl, rfl⟩) hS (fun a' ha => ?_)
                    simp only [Act.put, List.setIfInBounds_toArray, List.set_cons_succ, List.set_cons_zero] at ha
                    subst ha
                    refine MixH.take 1 22 _ (undef) rfl (by kernel_rfl) (by kernel_rfl) (by kernel_rfl) (by kernel_rfl) (.inr ⟨rfl, rfl⟩) hS (fun a' ha => ?_)
                    simp only [Act.put, List.setIfInBounds_toArray, List.set_cons_succ, List.set_cons_zero] at ha
                    subst ha
                    refine MixH.takes [false, false, false, false, false, false, false, false, false, false, false, false, false, false, false, false, false, false, false, false, false, false, false, true] 0 (by kernel_rfl) (by kernel_rfl) (by decide) (by kernel_rfl) hS (fun K hK => ?_)
                    simp only [Mix.pick]
                    repeat (go_big_quiet_step (fail))
                    refine wpQuiet_nil (hK _ ?_)
                    clear hK K
                    refine MixH.done (by kernel_rfl) ?_
                    have HY2 : Hid (Below Z.heap.size Z wA) := (FX.out _ hS).2.2.2.2
                    clear hS
                    go_wp2_with fail
                    go_roundw
                    case rel => exact ⟨i + 1, by simp, by have := HIK.out; omega, by have := HIK.out; omega, HY2⟩
                    case measure => have := HIK.out; simp [intOf]; omega
                  | false =>
                    cases cb with
                    | true =>
                      obtain ⟨e1, e2⟩ := HSAME.out.2 rfl rfl
                      subst e1
                      have g1 : decide (ra.p.n < xx.p.n) = false := by simpa using e2
                      clear HSAME
                      go_wp2_with fail
                      refine MixH.start (fun A => Below x4.heap.size x4 A) (by kernel_rfl) ?_
                      obtain ⟨wA, hwA⟩ : ∃ wA, wA = x4.drew := ⟨_, rfl⟩
                      have hS : Below x4.heap.size x4 wA := by rw [hwA]; exact bthen (Below.refl _ _) (Below.refl _ _).drew
                      rw [← hwA]
                      clear hwA
                      refine MixH.takes [true, true] 19 (by kernel_rfl) (by kernel_rfl) (by decide) (by kernel_rfl) hS (fun K hK => ?_)
                      simp only [Mix.pick]
                      repeat (go_big_quiet_step (fail))
                      refine wpQuiet_nil (hK _ ?_)
                      clear hK K
                      refine MixH.takes [false, false, true, false, true, true, true] 15 (by kernel_rfl) (by kernel_rfl) (by decide) (by kernel_rfl) hS (fun K hK => ?_)
                      simp only [Mix.pick]
                      repeat (go_big_quiet_step (fail))
                      refine wpQuiet_nil (hK _ ?_)
                      clear hK K
                      refine MixH.take 14 3 _ (.agg (pfC xx.p)) rfl (by kernel_rfl) (by kernel_rfl) (by kernel_rfl) (by kernel_rfl) (yields_pfx (.tmp 108) rfl B4 0 xx.p rfl rfl (fun A hA => (FX.out A hA).2.2.1.pfx)) hS (fun a' ha => ?_)
                      simp only [Act.put, List.setIfInBounds_toArray, List.set_cons_succ, List.set_cons_zero] at ha
                      subst ha
                      refine MixH.take 13 7 _ (.agg (ipCells V xv)) rfl (by kernel_rfl) (by kernel_rfl) (by kernel_rfl) (by kernel_rfl) (yields_ipr (.tmp 112) rfl pb (po + i * 17) V xv rfl rfl (fun A hA => (FX.out A hA).2.2.2.1)) hS (fun a' ha => ?_)
                      simp only [Act.put, List.setIfInBounds_toArray, List.set_cons_succ, List.set_cons_zero] at ha
                      subst ha
                      refine MixH.one [false, false, false, false, false, false, false, false, true] 12 8 _ rfl rfl (by kernel_rfl) (by kernel_rfl) (fun K hK => ?_)
                      simp only [Mix.pick]
                      go_wp2_with fail
                      refine Calls.mono (QC.out wA) ?_
                      rintro e wB ⟨rfl, bB⟩
                      replace hS : Below x4.heap.size x4 wB := bthen hS bB
                      clear bB
                      go_wp2_with fail
                      refine ⟨rfl, hK _ _ hS ?_⟩
                      clear hK K
                      refine MixH.takes [false, false, false, false, false, false, false, false, false, true] 11 (by kernel_rfl) (by kernel_rfl) (by decide) (by kernel_rfl) hS (fun K hK => ?_)
                      simp only [Mix.pick]
                      repeat (go_big_quiet_step (fail))
                      refine wpQuiet_nil (hK _ ?_)
                      clear hK K
                      refine MixH.takes [false, false, false, false, false, false, false, false, false, false, true, true] 9 (by kernel_rfl) (by kernel_rfl) (by decide) (by kernel_rfl) hS (fun K hK => ?_)
                      simp only [Mix.pick]
                      repeat (go_big_quiet_step (fail))
                      refine wpQuiet_nil (hK _ ?_)
                      clear hK K
                      refine MixH.take 8 12 _ (undef) rfl (by kernel_rfl) (by kernel_rfl) (by kernel_rfl) (by kernel_rfl) (.inr ⟨rfl, rfl⟩) hS (fun a' ha => ?_)
                      simp only [Act.put, List.setIfInBounds_toArray, List.set_cons_succ, List.set_cons_zero] at ha
                      subst ha
                      refine MixH.take 7 13 _ (undef) rfl (by kernel_rfl) (by kernel_rfl) (by kernel_rfl) (by kernel_rfl) (.inr ⟨rfl, rfl⟩) hS (fun a' ha => ?_)
                      simp only [Act.put, List.setIfInBounds_toArray, List.set_cons_succ, List.set_cons_zero] at ha
                      subst ha
                      refine MixH.take 6 14 _ (undef) rfl (by kernel_rfl) (by kernel_rfl) (by kernel_rfl) (by kernel_rfl) (.inr ⟨rfl, rfl⟩) hS (fun a' ha => ?_)
                      simp only [Act.put, List.setIfInBounds_toArray, List.set_cons_succ, List.set_cons_zero] at ha
                      subst ha
                      refine MixH.take 5 15 _ (undef) rfl (by kernel_rfl) (by kernel_rfl) (by kernel_rfl) (by kernel_rfl) (.inr ⟨rfl, rfl⟩) hS (fun a' ha => ?_)
                      simp only [Act.put, List.setIfInBounds_toArray, List.set_cons_succ, List.set_cons_zero] at ha
                      subst ha
                      refine MixH.take 4 16 _ (undef) rfl (by kernel_rfl) (by kernel_rfl) (by kernel_rfl) (by kernel_rfl) (.inr ⟨rfl, rfl⟩) hS (fun a' ha => ?_)
                      simp only [Act.put, List.setIfInBounds_toArray, List.set_cons_succ, List.set_cons_zero] at ha
                      subst ha
                      refine MixH.take 3 17 _ (undef) rfl (by kernel_rfl) (by kernel_rfl) (by kernel_rfl) (by kernel_rfl) (.inr ⟨rfl, rfl⟩) hS (fun a' ha => ?_)
                      simp only [Act.put, List.setIfInBounds_toArray, List.set_cons_succ, List.set_cons_zero] at ha
                      subst ha
                      refine MixH.take 2 18 _ (undef) rfl (by kernel_rfl) (by kernel_rfl) (by kernel_rfl) (by kernel_rfl) (.inr ⟨rfl, rfl⟩) hS (fun a' ha => ?_)
                      simp only [Act.put, List.setIfInBounds_toArray, List.set_cons_succ, List.set_cons_zero] at ha
                      subst ha
                      refine MixH.take 1 19 _ (undef) rfl (by kernel_rfl) (by kernel_rfl) (by kernel_rfl) (by kernel_rfl) (.inr ⟨rfl, rfl⟩) hS (fun a' ha => ?_)
                      simp only [Act.put, List.setIfInBounds_toArray, List.set_cons_succ, List.set_cons_zero] at ha
                      subst ha
                      refine MixH.takes [false, false, false, false, false, false, false, false, false, false, false, false, false, false, false, false, false, false, false, false, true] 0 (by kernel_rfl) (by kernel_rfl) (by decide) (by kernel_rfl) hS (fun K hK => ?_)
                      simp only [Mix.pick]
                      repeat (go_big_quiet_step (fail))
                      refine wpQuiet_nil (hK _ ?_)
                      clear hK K
                      refine MixH.done (by kernel_rfl) ?_
                      have HY : Hid (Below x4.heap.size x4 wB) := hS
                      clear hS
                      go_wp2_with fail
                      refine MixH.start (fun A => Below x4.heap.size x4 A) (by kernel_rfl) ?_
                      obtain ⟨wA, hwA⟩ : ∃ wA, wA = wB.drew := ⟨_, rfl⟩
                      have hS : Below x4.heap.size x4 wA := by rw [hwA]; exact bthen HY.out (Below.refl _ _).drew
                      rw [← hwA]
                      clear hwA
                      refine MixH.takes [true, true, true] 21 (by kernel_rfl) (by kernel_rfl) (by decide) (by kernel_rfl) hS (fun K hK => ?_)
                      simp only [Mix.pick]
                      repeat (go_big_quiet_step (fail))
                      refine wpQuiet_nil (hK _ ?_)
                      clear hK K
                      refine MixH.takes [false, false, false, true, false, true, true, true] 17 (by kernel_rfl) (by kernel_rfl) (by decide) (by kernel_rfl) hS (fun K hK => ?_)
                      simp only [Mix.pick]
                      repeat (go_big_quiet_step (fail))
                      refine wpQuiet_nil (hK _ ?_)
                      clear hK K
                      refine MixH.take 16 4 _ (.agg (pfC xx.p)) rfl (by kernel_rfl) (by kernel_rfl) (by kernel_rfl) (by kernel_rfl) (yields_pfx (.tmp 130) rfl B4 0 xx.p rfl rfl (fun A hA => (FX.out A hA).2.2.1.pfx)) hS (fun a' ha => ?_)
                      simp only [Act.put, List.setIfInBounds_toArray, List.set_cons_succ, List.set_cons_zero] at ha
                      subst ha
                      refine MixH.take 15 8 _ (.agg (ipCells V xv)) rfl (by kernel_rfl) (by kernel_rfl) (by kernel_rfl) (by kernel_rfl) (yields_ipr (.tmp 134) rfl pb (po + i * 17) V xv rfl rfl (fun A hA => (FX.out A hA).2.2.2.1)) hS (fun a' ha => ?_)
                      simp only [Act.put, List.setIfInBounds_toArray, List.set_cons_succ, List.set_cons_zero] at ha
                      subst ha
                      refine MixH.one [false, false, false, false, false, false, false, false, false, true] 14 9 _ rfl rfl (by kernel_rfl) (by kernel_rfl) (fun K hK => ?_)
                      simp only [Mix.pick]
                      go_wp2_with fail
                      refine Calls.mono (QC.out wA) ?_
                      rintro e wC ⟨rfl, bB⟩
                      replace hS : Below x4.heap.size x4 wC := bthen hS bB
                      clear bB
                      go_wp2_with fail
                      refine ⟨rfl, hK _ _ hS ?_⟩
                      clear hK K
                      refine MixH.takes [false, false, false, false, false, false, false, false, false, false, true, true] 12 (by kernel_rfl) (by kernel_rfl) (by decide) (by kernel_rfl) hS (fun K hK => ?_)
                      simp only [Mix.pick]
                      repeat (go_big_quiet_step (fail))
                      refine wpQuiet_nil (hK _ ?_)
                      clear hK K
                      refine MixH.takes [false, false, false, false, false, false, false, false, false, false, false, false, true, true, true, true, true, false, true, true] 5 (by kernel_rfl) (by kernel_rfl) (by decide) (by kernel_rfl) hS (fun K hK => ?_)
                      simp only [Mix.pick]
                      repeat (go_big_quiet_step (fail))
                      refine wpQuiet_nil (hK _ ?_)
                      clear hK K
                      refine MixH.take 4 17 _ (.int .i64 ra.p.n) rfl (by kernel_rfl) (by kernel_rfl) (by kernel_rfl) (by kernel_rfl) (yields_int (.tmp 143) rfl ⟨O13, 17, none⟩ (.int .i64 ra.p.n) rfl rfl (fun A hA => (FX.out A hA).1.cn)) hS (fun a' ha => ?_)
                      simp only [Act.put, List.setIfInBounds_toArray, List.set_cons_succ, List.set_cons_zero] at ha
                      subst ha
                      refine MixH.take 3 20 _ (.int .i64 xx.p.n) rfl (by kernel_rfl) (by kernel_rfl) (by kernel_rfl) (by kernel_rfl) (yields_int (.tmp 146) rfl ⟨B4, 17, none⟩ (.int .i64 xx.p.n) rfl rfl (fun A hA => (FX.out A hA).2.2.1.cn)) hS (fun a' ha => ?_)
                      simp only [Act.put, List.setIfInBounds_toArray, List.set_cons_succ, List.set_cons_zero] at ha
                      subst ha
                      refine MixH.takes [false, false, false, false, false, false, false, false, false, false, false, false, false, false, false, false, false, false, false, false, false, true, true] 1 (by kernel_rfl) (by kernel_rfl) (by decide) (by kernel_rfl) hS (fun K hK => ?_)
                      simp only [Mix.pick]
                      repeat (go_big_quiet_step (fail))
                      refine wpQuiet_nil (hK _ ?_)
                      clear hK K
                      refine MixH.takes [false, false, false, false, false, false, false, false, false, false, false, false, false, false, false, false, false, false, false, false, false, false, false, true] 0 (by kernel_rfl) (by kernel_rfl) (by decide) (by kernel_rfl) hS (fun K hK => ?_)
                      simp only [Mix.pick]
                      repeat (go_big_quiet_step (fail))
                      refine wpQuiet_nil (hK _ ?_)
                      clear hK K
                      refine MixH.done (by kernel_rfl) ?_
                      have HY2 : Hid (Below Z.heap.size Z wC) := (FX.out _ hS).2.2.2.2
                      clear hS
                      go_wp2_with fail
                      go_roundw
                      case rel => exact ⟨i + 1, by simp, by have := HIK.out; omega, by have := HIK.out; omega, HY2⟩
                      case measure => have := HIK.out; simp [intOf]; omega
                    | false =>
                      obtain ⟨e1, e2⟩ := HSAME.out.1 (.inr rfl)
                      subst e1 e2
                      have HEQ : Hid ((!(eqR ra ra)) = false) := by show (!(eqR ra ra)) = false; rw [eqR_refl]; rfl
                      clear HSAME
                      go_wp2_with fail
                      refine MixH.start (fun A => Below x4.heap.size x4 A) (by kernel_rfl) ?_
                      obtain ⟨wA, hwA⟩ : ∃ wA, wA = x4.drew := ⟨_, rfl⟩
                      have hS : Below x4.heap.size x4 wA := by rw [hwA]; exact bthen (Below.refl _ _) (Below.refl _ _).drew
                      rw [← hwA]
                      clear hwA
                      refine MixH.takes [true, true] 19 (by kernel_rfl) (by kernel_rfl) (by decide) (by kernel_rfl) hS (fun K hK => ?_)
                      simp only [Mix.pick]
                      repeat (go_big_quiet_step (fail))
                      refine wpQuiet_nil (hK _ ?_)
                      clear hK K
                      refine MixH.takes [false, false, true, false, true, true, true] 15 (by kernel_rfl) (by kernel_rfl) (by decide) (by kernel_rfl) hS (fun K hK => ?_)
                      simp only [Mix.pick]
                      repeat (go_big_quiet_step (fail))
                      refine wpQuiet_nil (hK _ ?_)
                      clear hK K
                      refine MixH.take 14 3 _ (.agg (pfC xx.p)) rfl (by kernel_rfl) (by kernel_rfl) (by kernel_rfl) (by kernel_rfl) (yields_pfx (.tmp 108) rfl B4 0 xx.p rfl rfl (fun A hA => (FX.out A hA).2.2.1.pfx)) hS (fun a' ha => ?_)
                      simp only [Act.put, List.setIfInBounds_toArray, List.set_cons_succ, List.set_cons_zero] at ha
                      subst ha
                      refine MixH.take 13 7 _ (.agg (ipCells V xv)) rfl (by kernel_rfl) (by kernel_rfl) (by kernel_rfl) (by kernel_rfl) (yields_ipr (.tmp 112) rfl pb (po + i * 17) V xv rfl rfl (fun A hA => (FX.out A hA).2.2.2.1)) hS (fun a' ha => ?_)
                      simp only [Act.put, List.setIfInBounds_toArray, List.set_cons_succ, List.set_cons_zero] at ha
                      subst ha
                      refine MixH.one [false, false, false, false, false, false, false, false, true] 12 8 _ rfl rfl (by kernel_rfl) (by kernel_rfl) (fun K hK => ?_)
                      simp only [Mix.pick]
                      go_wp2_with fail
                      refine Calls.mono (QC.out wA) ?_
                      rintro e wB ⟨rfl, bB⟩
                      replace hS : Below x4.heap.size x4 wB := bthen hS bB
                      clear bB
                      go_wp2_with fail
                      refine ⟨rfl, hK _ _ hS ?_⟩
                      clear hK K
                      refine MixH.takes [false, false, false, false, false, false, false, false, false, true] 11 (by kernel_rfl) (by kernel_rfl) (by decide) (by kernel_rfl) hS (fun K hK => ?_)
                      simp only [Mix.pick]
                      repeat (go_big_quiet_step (fail))
                      refine wpQuiet_nil (hK _ ?_)
                      clear hK K
                      refine MixH.takes [false, false, false, false, false, false, false, false, false, false, true, true] 9 (by kernel_rfl) (by kernel_rfl) (by decide) (by kernel_rfl) hS (fun K hK => ?_)
                      simp only [Mix.pick]
                      repeat (go_big_quiet_step (fail))
                      refine wpQuiet_nil (hK _ ?_)
                      clear hK K
                      refine MixH.take 8 12 _ (.agg (rtC ra)) rfl (by kernel_rfl) (by kernel_rfl) (by kernel_rfl) (by kernel_rfl) (yields_rte (.tmp 13) rfl O13 0 ra rfl rfl (fun A hA => (FX.out A hA).1.all)) hS (fun a' ha => ?_)
                      simp only [Act.put, List.setIfInBounds_toArray, List.set_cons_succ, List.set_cons_zero] at ha
                      subst ha
                      refine MixH.take 7 13 _ (.agg (rtC ra)) rfl (by kernel_rfl) (by kernel_rfl) (by kernel_rfl) (by kernel_rfl) (yields_rte (.tmp 15) rfl O15 0 ra rfl rfl (fun A hA => (FX.out A hA).2.1.all)) hS (fun a' ha => ?_)
                      simp only [Act.put, List.setIfInBounds_toArray, List.set_cons_succ, List.set_cons_zero] at ha
                      subst ha
                      refine MixH.one [false, false, false, false, false, false, false, false, false, false, false, false, false, false, true] 6 14 _ rfl rfl (by kernel_rfl) (by kernel_rfl) (fun K hK => ?_)
                      simp only [Mix.pick]
                      refine wpList_neq_rt (.tmp 118) (.tmp 119) rfl ra ra rfl rfl false HEQ.out rfl ?_
                      go_wp2_with fail
                      refine ⟨rfl, hK _ _ hS ?_⟩
                      clear hK K
                      refine MixH.takes [false, false, false, false, false, false, false, false, false, false, false, false, false, false, false, true, true, true, true, true] 1 (by kernel_rfl) (by kernel_rfl) (by decide) (by kernel_rfl) hS (fun K hK => ?_)
                      simp only [Mix.pick]
                      repeat (go_big_quiet_step (fail))
                      refine wpQuiet_nil (hK _ ?_)
                      clear hK K
                      refine MixH.takes [false, false, false, false, false, false, false, false, false, false, false, false, false, false, false, false, false, false, false, false, true] 0 (by kernel_rfl) (by kernel_rfl) (by decide) (by kernel_rfl) hS (fun K hK => ?_)
                      simp only [Mix.pick]
                      repeat (go_big_quiet_step (fail))
                      refine wpQuiet_nil (hK _ ?_)
                      clear hK K
                      refine MixH.done (by kernel_rfl) ?_
                      have HY : Hid (Below x4.heap.size x4 wB) := hS
                      clear hS
                      go_wp2_with fail
                      refine MixH.start (fun A => Below x4.heap.size x4 A) (by kernel_rfl) ?_
                      obtain ⟨wA, hwA⟩ : ∃ wA, wA = wB.drew := ⟨_, rfl⟩
                      have hS : Below x4.heap.size x4 wA := by rw [hwA]; exact bthen HY.out (Below.refl _ _).drew
                      rw [← hwA]
                      clear hwA
                      refine MixH.takes [true, true, true] 21 (by kernel_rfl) (by kernel_rfl) (by decide) (by kernel_rfl) hS (fun K hK => ?_)
                      simp only [Mix.pick]
                      repeat (go_big_quiet_step (fail))
                      refine wpQuiet_nil (hK _ ?_)
                      clear hK K
                      refine MixH.takes [false, false, false, true, false, true, true, true] 17 (by kernel_rfl) (by kernel_rfl) (by decide) (by kernel_rfl) hS (fun K hK => ?_)
                      simp only [Mix.pick]
                      repeat (go_big_quiet_step (fail))
                      refine wpQuiet_nil (hK _ ?_)
                      clear hK K
                      refine MixH.take 16 4 _ (.agg (pfC xx.p)) rfl (by kernel_rfl) (by kernel_rfl) (by kernel_rfl) (by kernel_rfl) (yields_pfx (.tmp 130) rfl B4 0 xx.p rfl rfl (fun A hA => (FX.out A hA).2.2.1.pfx)) hS (fun a' ha => ?_)
                      simp only [Act.put, List.setIfInBounds_toArray, List.set_cons_succ, List.set_cons_zero] at ha
                      subst ha
                      refine MixH.take 15 8 _ (.agg (ipCells V xv)) rfl (by kernel_rfl) (by kernel_rfl) (by kernel_rfl) (by kernel_rfl) (yields_ipr (.tmp 134) rfl pb (po + i * 17) V xv rfl rfl (fun A hA => (FX.out A hA).2.2.2.1)) hS (fun a' ha => ?_)
                      simp only [Act.put, List.setIfInBounds_toArray, List.set_cons_succ, List.set_cons_zero] at ha
                      subst ha
                      refine MixH.one [false, false, false, false, false, false, false, false, false, true] 14 9 _ rfl rfl (by kernel_rfl) (by kernel_rfl) (fun K hK => ?_)
                      simp only [Mix.pick]
                      go_wp2_with fail
                      refine Calls.mono (QC.out wA) ?_
                      rintro e wC ⟨rfl, bB⟩
                      replace hS : Below x4.heap.size x4 wC := bthen hS bB
                      clear bB
                      go_wp2_with fail
                      refine ⟨rfl, hK _ _ hS ?_⟩
                      clear hK K
                      refine MixH.takes [false, false, false, false, false, false, false, false, false, false, true, true] 12 (by kernel_rfl) (by kernel_rfl) (by decide) (by kernel_rfl) hS (fun K hK => ?_)
                      simp only [Mix.pick]
                      repeat (go_big_quiet_step (fail))
                      refine wpQuiet_nil (hK _ ?_)
                      clear hK K
                      refine MixH.take 11 12 _ (undef) rfl (by kernel_rfl) (by kernel_rfl) (by kernel_rfl) (by kernel_rfl) (.inr ⟨rfl, rfl⟩) hS (fun a' ha => ?_)
                      simp only [Act.put, List.setIfInBounds_toArray, List.set_cons_succ, List.set_cons_zero] at ha
                      subst ha
                      refine MixH.take 10 13 _ (undef) rfl (by kernel_rfl) (by kernel_rfl) (by kernel_rfl) (by kernel_rfl) (.inr ⟨rfl, rfl⟩) hS (fun a' ha => ?_)
                      simp only [Act.put, List.setIfInBounds_toArray, List.set_cons_succ, List.set_cons_zero] at ha
                      subst ha
                      refine MixH.take 9 14 _ (undef) rfl (by kernel_rfl) (by kernel_rfl) (by kernel_rfl) (by kernel_rfl) (.inr ⟨rfl, rfl⟩) hS (fun a' ha => ?_)
                      simp only [Act.put, List.setIfInBounds_toArray, List.set_cons_succ, List.set_cons_zero] at ha
                      subst ha
                      refine MixH.take 8 15 _ (undef) rfl (by kernel_rfl) (by kernel_rfl) (by kernel_rfl) (by kernel_rfl) (.inr ⟨rfl, rfl⟩) hS (fun a' ha => ?_)
                      simp only [Act.put, List.setIfInBounds_toArray, List.set_cons_succ, List.set_cons_zero] at ha
                      subst ha
                      refine MixH.take 7 16 _ (undef) rfl (by kernel_rfl) (by kernel_rfl) (by kernel_rfl) (by kernel_rfl) (.inr ⟨rfl, rfl⟩) hS (fun a' ha => ?_)
                      simp only [Act.put, List.setIfInBounds_toArray, List.set_cons_succ, List.set_cons_zero] at ha
                      subst ha
                      refine MixH.take 6 17 _ (undef) rfl (by kernel_rfl) (by kernel_rfl) (by kernel_rfl) (by kernel_rfl) (.inr ⟨rfl, rfl⟩) hS (fun a' ha => ?_)
                      simp only [Act.put, List.setIfInBounds_toArray, List.set_cons_succ, List.set_cons_zero] at ha
                      subst ha
                      refine MixH.take 5 18 _ (undef) rfl (by kernel_rfl) (by kernel_rfl) (by kernel_rfl) (by kernel_rfl) (.inr ⟨rfl, rfl⟩) hS (fun a' ha => ?_)
                      simp only [Act.put, List.setIfInBounds_toArray, List.set_cons_succ, List.set_cons_zero] at ha
                      subst ha
                      refine MixH.take 4 19 _ (undef) rfl (by kernel_rfl) (by kernel_rfl) (by kernel_rfl) (by kernel_rfl) (.inr ⟨rfl, rfl⟩) hS (fun a' ha => ?_)
                      simp only [Act.put, List.setIfInBounds_toArray, List.set_cons_succ, List.set_cons_zero] at ha
                      subst ha
                      refine MixH.take 3 20 _ (undef) rfl (by kernel_rfl) (by kernel_rfl) (by kernel_rfl) (by kernel_rfl) (.inr ⟨rfl, rfl⟩) hS (fun a' ha => ?_)
                      simp only [Act.put, List.setIfInBounds_toArray, List.set_cons_succ, List.set_cons_zero] at ha
                      subst ha
                      refine MixH.take 2 21 _ (undef) rfl (by kernel_rfl) (by kernel_rfl) (by kernel_rfl) (by kernel_rfl) (.inr ⟨rfl, rfl⟩) hS (fun a' ha => ?_)
                      simp only [Act.put, List.setIfInBounds_toArray, List.set_cons_succ, List.set_cons_zero] at ha
                      subst ha
                      refine MixH.take 1 22 _ (undef) rfl (by kernel_rfl) (by kernel_rfl) (by kernel_rfl) (by kernel_rfl) (.inr ⟨rfl, rfl⟩) hS (fun a' ha => ?_)
                      simp only [Act.put, List.setIfInBounds_toArray, List.set_cons_succ, List.set_cons_zero] at ha
                      subst ha
                      refine MixH.takes [false, false, false, false, false, false, false, false, false, false, false, false, false, false, false, false, false, false, false, false, false, false, false, true] 0 (by kernel_rfl) (by kernel_rfl) (by decide) (by kernel_rfl) hS (fun K hK => ?_)
                      simp only [Mix.pick]
                      repeat (go_big_quiet_step (fail))
                      refine wpQuiet_nil (hK _ ?_)
                      clear hK K
                      refine MixH.done (by kernel_rfl) ?_
                      have HY2 : Hid (Below Z.heap.size Z wC) := (FX.out _ hS).2.2.2.2
                      clear hS
                      go_wp2_with fail
                      go_roundw
                      case rel => exact ⟨i + 1, by simp, by have := HIK.out; omega, by have := HIK.out; omega, HY2⟩
                      case measure => have := HIK.out; simp [intOf]; omega
                · have q6 : ¬ (i : Int) < 60 := by omega
                  clear h60
                  go_wp2_with fail
                  go_meet
                  exact HWr
              · have q1 : ¬ (i : Int) < (NI : Int) := by omega
                clear hlt
                go_wp2_with fail
                go_meet
                exact HWr
          case rest =>
            obtain ⟨wL, hwL⟩ : ∃ wL, wL = wc := ⟨_, rfl⟩
            rw [← hwL] at hcut ⊢
            have HRL : Hid (RA w t M u Mu B4 Rt RR.reverse RR (.slice na NR nc) xx wL) := HZ.out.1.below hcut.out
            clear hcut hwL HZ
            go_upto_region 28 with fail
            go_cut [166] from 151 to 191 (fun bb wx => bb = .bool false ∧ Hid (RA w t M u Mu B4 RR RR.reverse RR (.slice na NR nc) xx wx))
            case first =>
              cases hd with
              | true =>
                have HRt : Hid (Rt = RR) := by
                  rcases HHP.out.2 with e | e
                  · exact e.2
                  · cases e.1
                have HRM : Hid (RA w t M u Mu B4 RR RR.reverse RR (.slice na NR nc) xx wL) := by have h1 := HRL.out; rw [HRt.out] at h1; exact h1
                clear HRL
                go_wp2_with fail
                refine Calls.mono (HRM.out.ft.lenz (NR : Int) (by rw [HNR.out])) ?_
                rintro e w4 ⟨rfl, rfl⟩
                go_wp2_with fail
                refine Calls.mono (HRM.out.fu.lenz (NR : Int) (by rw [List.length_reverse, HNR.out])) ?_
                rintro e w5 ⟨rfl, rfl⟩
                have nn : ((NR : Int) != (NR : Int)) = false := by simp
                go_wp2_with fail
                go_meet
                exact ⟨by simp, HRM⟩
              | false =>
                have HRt : Hid (Rt = RR ++ [xx] ∧ fnd RR xx.p = none) := by
                  rcases HHP.out.2 with e | e
                  · cases e.1
                  · exact ⟨e.2.1, (addE_zero e.2.2).2.1⟩
                have HPW : Hid xx.p.Wf := HHP.out.1.1
                have QD : Hid (Calls Tryd.prog 11 #[.pointer (some ⟨t, 0, none⟩), .agg (pfC xx.p)] wL fun e A' => e = .returned (.bool true) ∧ TS w t M RR A' ∧ Ch (fun q => q = M) wL A') := by
                  have h1 := HRL.out.ft.drop xx.p HPW.out
                  rw [HRt.out.1, fnd_snoc, HRt.out.2, eqP_refl, del_snoc HRt.out.2] at h1
                  exact h1
                have HRF : Hid (RA w t M u Mu B4 Rt RR.reverse RR (.slice na NR nc) xx wL) := HRL.out
                clear HRL
                go_wp2_with (first | (refine wpList_mid_pfx (.tmp 155) rfl B4 0 xx.p rfl HRF.out.bx.pfx rfl ?_))
                refine Calls.mono QD.out ?_
                rintro e w3 ⟨rfl, hT3, k3⟩
                have HRM : Hid (RA w t M u Mu B4 RR RR.reverse RR (.slice na NR nc) xx w3) := HRF.out.addT k3 hT3
                clear hT3 k3 QD
                go_wp2_with fail
                refine Calls.mono (HRM.out.ft.lenz (NR : Int) (by rw [HNR.out])) ?_
                rintro e w4 ⟨rfl, rfl⟩
                go_wp2_with fail
                refine Calls.mono (HRM.out.fu.lenz (NR : Int) (by rw [List.length_reverse, HNR.out])) ?_
                rintro e w5 ⟨rfl, rfl⟩
                have nn : ((NR : Int) != (NR : Int)) = false := by simp
                go_wp2_with fail
                go_meet
                exact ⟨by simp, HRM⟩
            case rest =>
              obtain ⟨rfl, HRM⟩ := hcut
              clear HRL HHP HTAB
              go_upto_region 31 with fail
              obtain ⟨O17, hO17⟩ : ∃ O, O = wc.heap.size := ⟨_, rfl⟩
              obtain ⟨O18, hO18⟩ : ∃ O, O = wc.heap.size + 1 := ⟨_, rfl⟩
              rw [← hO18, ← hO17]
              obtain ⟨w0, hw0⟩ : ∃ w0, w0 = (wc.alloc (.cells #[.slice none 0 0] 22)).alloc (.cells #[.slice none 0 0] 22) := ⟨_, rfl⟩
              rw [← hw0]
              have b0 : Below wc.heap.size wc w0 := by rw [hw0]; exact ((Below.refl _ _).alloc (Nat.le_refl _) _).alloc (by simp) _
              have HW0 : Hid (RA w t M u Mu B4 RR RR.reverse RR (.slice na NR nc) xx w0 ∧ w0.cell? ⟨O17, 0, none⟩ = some (.slice none 0 0) ∧ w0.frozen? ⟨O17, 0, none⟩ = false ∧ w0.cell? ⟨O18, 0, none⟩ = some (.slice none 0 0) ∧ w0.frozen? ⟨O18, 0, none⟩ = false ∧ wc.heap.size = O17 ∧ O18 = O17 + 1 ∧ w0.heap.size = O17 + 2) := by
                have e1 := cellOne wc (.slice none 0 0) 22
                have e2 := cellOne (wc.alloc (.cells #[.slice none 0 0] 22)) (.slice none 0 0) 22
                rw [World.size_alloc] at e2
                have bb : Below (wc.alloc (.cells #[.slice none 0 0] 22)).heap.size (wc.alloc (.cells #[.slice none 0 0] 22)) w0 := by rw [hw0]; exact (Below.refl _ _).alloc (Nat.le_refl _) _
                refine ⟨HRM.out.below b0, ?_, ?_, ?_, ?_, hO17.symm, by omega, ?_⟩
                · rw [hO17, bb.cell (p := ⟨wc.heap.size, 0, none⟩) (by simp)]; exact e1.1
                · rw [hO17, bb.frozen (p := ⟨wc.heap.size, 0, none⟩) (by simp)]; exact e1.2
                · rw [hO18, hw0]; exact e2.1
                · rw [hO18, hw0]; exact e2.2
                · rw [hw0, World.size_alloc, World.size_alloc, hO17]
              have HLW : Hid (RA w t M u Mu B4 RR RR.reverse RR (.slice na NR nc) xx wc) := HRM.out
              clear HRM hO17 hO18 hw0 b0
              go_wp2_with fail
              refine Calls.mono (all_any t w0) ?_
              rintro e Y1 ⟨rfl, hY1⟩
              have bY : Below w0.heap.size w0 Y1 := by rw [hY1]; exact (Below.refl _ _).alloc (Nat.le_refl _) _
              obtain ⟨Dt, hDt⟩ := (HW0.out.1.below bY).ft.tab
              have HY1 : Hid (Y1.cell? ⟨w0.heap.size, 0, none⟩ = some (.pointer (some ⟨t, 0, none⟩)) ∧ TabAt Y1 t M Dt RR ∧ RR.length ≤ 256 ∧ O17 < Y1.heap.size ∧ Y1.cell? ⟨O17, 0, none⟩ = some (.slice none 0 0) ∧ Y1.frozen? ⟨O17, 0, none⟩ = false) := by
                have c1 := HW0.out.2.1
                have h1 := World.block_lt_of_cell? w0 _ c1
                refine ⟨by rw [hY1]; exact (cellOne w0 _ _).1, hDt, HROK.out.2.2.2, Nat.lt_of_lt_of_le h1 bY.size, (bY.cell (p := ⟨O17, 0, none⟩) h1).trans c1, (bY.frozen (p := ⟨O17, 0, none⟩) h1).trans HW0.out.2.2.1⟩
              have HY1R : Hid (RA w t M u Mu B4 RR RR.reverse RR (.slice na NR nc) xx Y1 ∧ w.heap.size ≤ O17 ∧ O18 = O17 + 1 ∧ O18 < Y1.heap.size ∧ (t < O17 ∧ M < O17) ∧ (u < O17 ∧ Mu < O17) ∧ B4 < O17 ∧ True ∧ Y1.cell? ⟨O18, 0, none⟩ = some (.slice none 0 0) ∧ Y1.frozen? ⟨O18, 0, none⟩ = false ∧ True ∧ ∀ g, (Value.slice na NR nc).ownBlock = some g → g ≠ O17) := by
                have h0 := HW0.out
                have hl := HLW.out.lts
                have hs := HLW.out.ft.bel.size
                have hsz := bY.size
                have c1 := h0.2.2.2.1
                have h1 := World.block_lt_of_cell? w0 _ c1
                refine ⟨h0.1.below bY, by omega, h0.2.2.2.2.2.2.1, by omega, ⟨by omega, by omega⟩, ⟨by omega, by omega⟩, by omega, trivial, (bY.cell (p := ⟨O18, 0, none⟩) h1).trans c1, (bY.frozen (p := ⟨O18, 0, none⟩) h1).trans h0.2.2.2.2.1, trivial, fun g hg => ?_⟩
                have := hl.2.2.2.2.2 g hg
                omega
              obtain ⟨Bt1, hBt1⟩ : ∃ b, b = w0.heap.size := ⟨_, rfl⟩
              rw [← hBt1] at HY1 ⊢
              clear hY1 bY hDt hBt1 HW0 HLW
              go_wp2_with fail
              refine wp_named ?_
              intro a0 ha0
              refine (wpIn_wide (n := 3)).1 ?_
              refine wpIn_rangeFunc_ownH (n := 3) rfl (by decide) (gf := 19) (lb := #[.pointer (some ⟨Bt1, 0, none⟩)]) (by rw [ha0]; rfl) trivial (enters_of Tryd.func19 (by kernel_rfl) rfl)
                (all_stops sorts _ Bt1 O17 t M Dt RR Y1 HY1.out.1 HY1.out.2.1 HY1.out.2.2.1 HY1.out.2.2.2.1 (fun v q hv hq => by rw [HY1.out.2.2.2.2.1] at hv; cases hv; cases hq)) KO.tr (fun W l o o' hl ho hc hw => KO.put W l o o' hl ho hc hw HY1.out.2.2.2.1) (Below.refl _ _) (fun _ => rfl)
                (fun pre A => ∃ v, PB Y1 O17 Y1.heap.size v pre A)
                (fun _ _ _ => False)
                (fun s A A' row hs hg hr => by
                  obtain ⟨v, h⟩ := hs
                  refine ⟨v, h.grown (Ch.ofGrown hg) (fun q e => (hr q e).1) (fun q e o ho => ?_)⟩
                  obtain ⟨_, o', ho', hc⟩ := hr q e
                  rw [ho] at ho'
                  cases ho'
                  exact hc)
                (fun c s A A' row hs hg hr => hs.elim)
                ⟨.slice none 0 0, HY1.out.2.2.2.2.1, HY1.out.2.2.2.2.2, RL.nil _ _, Ch.refl _ _, HY1.out.2.2.2.1, Nat.le_refl _⟩
                (fun r a' A => ∃ Bx, RteAt A Bx r ∧ a' = (({ tmps := a0.tmps, defers := [] } : Act).put (some 169) (.agg (rtC r))).put (some 19) (.pointer (some ⟨Bx, 0, none⟩)))
                (fun r a' _ A A' row hs hg hr => by
                  obtain ⟨Bx, h2, h3⟩ := hs
                  refine ⟨Bx, RteAt.ch h2 (Ch.ofGrown hg) (fun e => ?_), h3⟩
                  obtain ⟨_, o, ho, hc⟩ := hr Bx e
                  unfold RteAt at h2
                  rw [h2] at ho
                  cases ho
                  cases hc)
                ?assign1 ?body1 ?done1 ?stop1
              case assign1 =>
                intro l pre r A K hi hK
                subst ha0
                rw [fold_one]
                simp only [List.setIfInBounds_toArray, List.set_cons_succ, List.set_cons_zero]
                refine regIn (by kernel_rfl) ?_
                refine wpList_alloc_rte rfl rfl ?_
                refine wpList_store_rte (.tmp 19) (.tmp 169) rfl rfl A.heap.size rz r rfl rfl (rte_new A rz) rfl ?_
                intro A' hR k
                have bz : Below A.heap.size A (A.alloc (.cells (rtC rz) 29)) := (Below.refl _ _).alloc (Nat.le_refl _) _
                have b : Below A.heap.size A A' := bz.trans (k.below (fun q e => by have e' : q = A.heap.size := e; omega) bz.size)
                obtain ⟨v, h1⟩ := hi
                refine ⟨rfl, hK _ _ (kf_below b) (KO.below b (World.block_lt_of_cell? A _ h1.cl)) ⟨v, h1.below b⟩ ⟨A.heap.size, hR, rfl⟩⟩
              case body1 =>
                rintro l pre r a' Wb hl ⟨rc, hrc⟩ ⟨v, hPB⟩ ⟨Bx, hBx, rfl⟩ hlen
                subst ha0
                simp only [Act.put, List.setIfInBounds_toArray, List.set_cons_succ, List.set_cons_zero]
                obtain ⟨va, vc, hvf⟩ := hPB.li.form
                subst hvf
                obtain ⟨np, hnp⟩ : ∃ np, np = pre.length := ⟨_, rfl⟩
                rw [← hnp] at hPB
                have HP : Hid (PB Y1 O17 Y1.heap.size (.slice va np vc) pre Wb ∧ RteAt Wb Bx r ∧ pre.length ≤ 100000 ∧ Y1.heap.size ≤ Wb.heap.size) := ⟨hPB, hBx, by have := HY1.out.2.2.1; omega, Nat.le_trans hPB.sz hPB.ch.size⟩
                have cl := hPB.cl
                clear hPB hBx hlen hrc hnp
                gi_wp2_with (first | (refine wpListIn_load_rte (.tmp 19) rfl Bx r rfl HP.out.2.1 rfl ?_) | (refine wpListIn_bs1 (.tmp 171) rfl r rfl rfl ?_) | (refine wpListIn_app2 rfl (.tmp 170) (.tmp 172) rfl Y1.heap.size (.slice va np vc) pre rfl (HP.out.1.li.below ((Below.refl _ _).alloc (Nat.le_refl _) _)) Wb.heap.size r rfl (rte_new Wb r) HP.out.2.2.1 (by rw [World.size_alloc]; exact Nat.le_succ_of_le HP.out.2.2.2) ?_))
                intro v' w' hRL hgr hv
                have HX : Hid _ := HP.out.1.put ((Below.refl _ _).alloc (Nat.le_refl _) _) hgr hRL (by rw [World.size_alloc]; exact hv)
                have cl2 := HX.out.2.2.1
                have fb2 := HX.out.2.2.2.1
                obtain ⟨va', vc', hvf⟩ := hRL.form
                obtain ⟨n1, hn1⟩ : ∃ n1, n1 = (pre ++ [r]).length := ⟨_, rfl⟩
                rw [← hn1] at hvf
                subst hvf
                clear hRL hgr hv cl hn1
                gi_wp2
                refine ⟨HX.out.2.2.2.2, HX.out.2.1, ?_⟩
                exact ⟨_, HX.out.1⟩
              case stop1 =>
                rintro DD c pre A hD _ h hK
                exact h.elim
              case done1 =>
                rintro DD1 xs1 A1 hD1 hS1 ⟨v1, hPB1⟩ hK1
                subst ha0
                obtain ⟨va1, vc1, hv1⟩ := hPB1.li.form
                subst hv1
                obtain ⟨wX, hwX⟩ : ∃ wX, wX = A1 := ⟨_, rfl⟩
                rw [← hwX] at hPB1 hK1 ⊢
                have hx1 : xs1.length = NR := by rw [hS1.2.2.2, HNR.out]
                rw [hx1] at hPB1
                clear hx1
                have HA1 : Hid (RA w t M u Mu B4 RR RR.reverse RR (.slice na NR nc) xx wX ∧ PB Y1 O17 Y1.heap.size (.slice va1 NR vc1) xs1 wX ∧ wX.cell? ⟨O18, 0, none⟩ = some (.slice none 0 0) ∧ wX.frozen? ⟨O18, 0, none⟩ = false ∧ Srt RR xs1 ∧ wX.heap[DD1]? = some (.deferred (some [])) ∧ Y1.heap.size ≤ DD1) := by
                  have hr := HY1R.out.1
                  have hl := hr.lts
                  have hO := HY1R.out.2
                  have e0 := hO.1
                  have e1 := hO.2.1
                  have e2 := hO.2.2.1
                  have e3 := hO.2.2.2.1
                  have e4 := hO.2.2.2.2.1
                  have e5 := hO.2.2.2.2.2.1
                  have no : ∀ q, q < Y1.heap.size → q ≠ O17 → ¬ (q = O17 ∨ Y1.heap.size ≤ q) := fun q h1 h2 h3 => by omega
                  refine ⟨hr.far hPB1.ch (fun q e => ?_) (no _ hl.1 (by omega)) (no _ hl.2.1 (by omega)) (no _ hl.2.2.1 (by omega)) (no _ hl.2.2.2.1 (by omega)) (no _ hl.2.2.2.2.1 (by omega)) (fun g hg => no g (hl.2.2.2.2.2 g hg) (hO.2.2.2.2.2.2.2.2.2.2 g hg)), hPB1, hPB1.ch.cell hO.2.2.2.2.2.2.2.1 (no O18 (by omega) (by omega)), (hPB1.ch.frozen (p := ⟨O18, 0, none⟩) (by show O18 < _; omega) (no O18 (by omega) (by omega))).trans hO.2.2.2.2.2.2.2.2.1, hS1, hK1, hD1⟩
                  rcases e with e | e
                  · omega
                  · have := hr.ft.bel.size; omega
                have HOO : Hid (O18 = O17 + 1 ∧ O18 < Y1.heap.size ∧ w.heap.size ≤ O17) := ⟨HY1R.out.2.2.1, HY1R.out.2.2.2.1, HY1R.out.2.1⟩
                clear hPB1 hK1 hS1 hD1 hwX HY1 HY1R
                go_wp2_with fail
                refine Calls.mono (all_any u wX) ?_
                rintro e wY ⟨rfl, hwY⟩
                have bY : Below wX.heap.size wX wY := by rw [hwY]; exact (Below.refl _ _).alloc (Nat.le_refl _) _
                obtain ⟨Dv, hDv⟩ := (HA1.out.1.below bY).fu.tab
                have HY2 : Hid (wY.cell? ⟨wX.heap.size, 0, none⟩ = some (.pointer (some ⟨u, 0, none⟩)) ∧ TabAt wY u Mu Dv RR.reverse ∧ RR.reverse.length ≤ 256 ∧ O18 < wY.heap.size ∧ wY.cell? ⟨O18, 0, none⟩ = some (.slice none 0 0) ∧ wY.frozen? ⟨O18, 0, none⟩ = false) := by
                  have c1 := HA1.out.2.2.1
                  have h1 := World.block_lt_of_cell? wX _ c1
                  refine ⟨by rw [hwY]; exact (cellOne wX _ _).1, hDv, by rw [List.length_reverse]; exact HROK.out.2.2.2, Nat.lt_of_lt_of_le h1 bY.size, (bY.cell (p := ⟨O18, 0, none⟩) h1).trans c1, (bY.frozen (p := ⟨O18, 0, none⟩) h1).trans HA1.out.2.2.2.1⟩
                have HA2 : Hid (Below wX.heap.size wX wY) := bY
                obtain ⟨Bt2, hBt2⟩ : ∃ b, b = wX.heap.size := ⟨_, rfl⟩
                rw [← hBt2] at HY2 ⊢
                clear hwY bY hDv hBt2
                go_wp2_with fail
                refine wp_named ?_
                intro a0 ha0
                refine (wpIn_wide (n := 3)).1 ?_
                refine wpIn_rangeFunc_ownH (n := 3) rfl (by decide) (gf := 19) (lb := #[.pointer (some ⟨Bt2, 0, none⟩)]) (by rw [ha0]; rfl) trivial (enters_of Tryd.func19 (by kernel_rfl) rfl)
                  (all_stops sorts _ Bt2 O18 u Mu Dv RR.reverse wY HY2.out.1 HY2.out.2.1 HY2.out.2.2.1 HY2.out.2.2.2.1 (fun v q hv hq => by rw [HY2.out.2.2.2.2.1] at hv; cases hv; cases hq)) KO.tr (fun W l o o' hl ho hc hw => KO.put W l o o' hl ho hc hw HY2.out.2.2.2.1) (Below.refl _ _) (fun _ => rfl)
                  (fun pre A => ∃ v, PB wY O18 wY.heap.size v pre A)
                  (fun _ _ _ => False)
                  (fun s A A' row hs hg hr => by
                    obtain ⟨v, h⟩ := hs
                    refine ⟨v, h.grown (Ch.ofGrown hg) (fun q e => (hr q e).1) (fun q e o ho => ?_)⟩
                    obtain ⟨_, o', ho', hc⟩ := hr q e
                    rw [ho] at ho'
                    cases ho'
                    exact hc)
                  (fun c s A A' row hs hg hr => hs.elim)
                  ⟨.slice none 0 0, HY2.out.2.2.2.2.1, HY2.out.2.2.2.2.2, RL.nil _ _, Ch.refl _ _, HY2.out.2.2.2.1, Nat.le_refl _⟩
                  (fun r a' A => ∃ Bx, RteAt A Bx r ∧ a' = (({ tmps := a0.tmps, defers := [] } : Act).put (some 176) (.agg (rtC r))).put (some 20) (.pointer (some ⟨Bx, 0, none⟩)))
                  (fun r a' _ A A' row hs hg hr => by
                    obtain ⟨Bx, h2, h3⟩ := hs
                    refine ⟨Bx, RteAt.ch h2 (Ch.ofGrown hg) (fun e => ?_), h3⟩
                    obtain ⟨_, o, ho, hc⟩ := hr Bx e
                    unfold RteAt at h2
                    rw [h2] at ho
                    cases ho
                    cases hc)
                  ?assign2 ?body2 ?done2 ?stop2
                case assign2 =>
                  intro l pre r A K hi hK
                  subst ha0
                  rw [fold_one]
                  simp only [List.setIfInBounds_toArray, List.set_cons_succ, List.set_cons_zero]
                  refine regIn (by kernel_rfl) ?_
                  refine wpList_alloc_rte rfl rfl ?_
                  refine wpList_store_rte (.tmp 20) (.tmp 176) rfl rfl A.heap.size rz r rfl rfl (rte_new A rz) rfl ?_
                  intro A' hR k
                  have bz : Below A.heap.size A (A.alloc (.cells (rtC rz) 29)) := (Below.refl _ _).alloc (Nat.le_refl _) _
                  have b : Below A.heap.size A A' := bz.trans (k.below (fun q e => by have e' : q = A.heap.size := e; omega) bz.size)
                  obtain ⟨v, h1⟩ := hi
                  refine ⟨rfl, hK _ _ (kf_below b) (KO.below b (World.block_lt_of_cell? A _ h1.cl)) ⟨v, h1.below b⟩ ⟨A.heap.size, hR, rfl⟩⟩
                case body2 =>
                  rintro l pre r a' Wb hl ⟨rc, hrc⟩ ⟨v, hPB⟩ ⟨Bx, hBx, rfl⟩ hlen
                  subst ha0
                  simp only [Act.put, List.setIfInBounds_toArray, List.set_cons_succ, List.set_cons_zero]
                  obtain ⟨va, vc, hvf⟩ := hPB.li.form
                  subst hvf
                  obtain ⟨np, hnp⟩ : ∃ np, np = pre.length := ⟨_, rfl⟩
                  rw [← hnp] at hPB
                  have HP : Hid (PB wY O18 wY.heap.size (.slice va np vc) pre Wb ∧ RteAt Wb Bx r ∧ pre.length ≤ 100000 ∧ wY.heap.size ≤ Wb.heap.size) := ⟨hPB, hBx, by have := HY2.out.2.2.1; omega, Nat.le_trans hPB.sz hPB.ch.size⟩
                  have cl := hPB.cl
                  clear hPB hBx hlen hrc hnp
                  gi_wp2_with (first | (refine wpListIn_load_rte (.tmp 20) rfl Bx r rfl HP.out.2.1 rfl ?_) | (refine wpListIn_bs1 (.tmp 178) rfl r rfl rfl ?_) | (refine wpListIn_app2 rfl (.tmp 177) (.tmp 179) rfl wY.heap.size (.slice va np vc) pre rfl (HP.out.1.li.below ((Below.refl _ _).alloc (Nat.le_refl _) _)) Wb.heap.size r rfl (rte_new Wb r) HP.out.2.2.1 (by rw [World.size_alloc]; exact Nat.le_succ_of_le HP.out.2.2.2) ?_))
                  intro v' w' hRL hgr hv
                  have HX : Hid _ := HP.out.1.put ((Below.refl _ _).alloc (Nat.le_refl _) _) hgr hRL (by rw [World.size_alloc]; exact hv)
                  have cl2 := HX.out.2.2.1
                  have fb2 := HX.out.2.2.2.1
                  obtain ⟨va', vc', hvf⟩ := hRL.form
                  obtain ⟨n1, hn1⟩ : ∃ n1, n1 = (pre ++ [r]).length := ⟨_, rfl⟩
                  rw [← hn1] at hvf
                  subst hvf
                  clear hRL hgr hv cl hn1
                  gi_wp2
                  refine ⟨HX.out.2.2.2.2, HX.out.2.1, ?_⟩
                  exact ⟨_, HX.out.1⟩
                case stop2 =>
                  rintro DD c pre A hD _ h hK
                  exact h.elim
                case done2 =>
                  rintro DD2 xs2 A2 hD2 hS2 ⟨v2, hPB2⟩ hK2
                  subst ha0
                  obtain ⟨va2, vc2, hv2⟩ := hPB2.li.form
                  subst hv2
                  have hx2 : xs2.length = NR := by rw [hS2.2.2.2, List.length_reverse, HNR.out]
                  rw [hx2] at hPB2
                  have hsame : xs1 = xs2 := Srt.same HA1.out.2.2.2.2.1 hS2 (fun r hr => (HROK.out.1 r hr).1) (fun s => List.mem_reverse.symm)
                  subst hsame
                  obtain ⟨wE, hwE⟩ : ∃ wE, wE = A2 := ⟨_, rfl⟩
                  rw [← hwE] at hPB2 hK2 ⊢
                  have HE : Hid (ListG 36 rcL ROk wE va1 xs1 ∧ ListG 36 rcL ROk wE va2 xs1 ∧ wE.cell? ⟨O17, 0, none⟩ = some (.slice va1 NR vc1) ∧ wE.cell? ⟨O18, 0, none⟩ = some (.slice va2 NR vc2) ∧ Below w.heap.size w wE ∧ wE.heap[DD1]? = some (.deferred (some [])) ∧ wE.heap[DD2]? = some (.deferred (some [])) ∧ xs1.length = NR ∧ (w.heap.size ≤ DD1 ∧ w.heap.size ≤ DD2 ∧ DD1 ≠ DD2)) := by
                    have ho := HOO.out
                    have o1 := ho.1
                    have o2 := ho.2.1
                    have o3 := ho.2.2
                    have bY := HA2.out
                    have sY := bY.size
                    have hP1 := HA1.out.2.1
                    have s1 := hP1.ch.size
                    have dd := HA1.out.2.2.2.2.2.1
                    have hD1 := HA1.out.2.2.2.2.2.2
                    have ddl := (Array.getElem?_eq_some_iff.1 dd).1
                    have bw := HA1.out.1.ft.bel
                    have sw := bw.size
                    have no : ∀ q, q < wY.heap.size → q ≠ O18 → ¬ (q = O18 ∨ wY.heap.size ≤ q) := fun q h1 h2 h3 => by omega
                    have hl1 : RL wY Y1.heap.size (.slice va1 NR vc1) xs1 := hP1.li.below bY
                    have hl2 : RL wE Y1.heap.size (.slice va1 NR vc1) xs1 := hl1.ch hPB2.ch (fun g hg => no g (by obtain ⟨_, _, o, ho', _⟩ := hl1.cells g hg; exact (Array.getElem?_eq_some_iff.1 ho').1) (by have := (hl1.cells g hg).1; omega))
                    have okx : ∀ r ∈ xs1, ROk r := fun r hr => HROK.out.1 r ((HA1.out.2.2.2.2.1.1 r).1 hr)
                    obtain ⟨a1, c1, e1, g1⟩ := GL.listG (K := 36) (cells := rcL) (ok := ROk) hl2 rcL_len okx
                    obtain ⟨a2, c2, e2, g2⟩ := GL.listG (K := 36) (cells := rcL) (ok := ROk) hPB2.li rcL_len okx
                    rw [hx2] at e1 e2
                    simp only [Value.slice.injEq, true_and] at e1 e2
                    rw [← e1.1] at g1
                    rw [← e2.1] at g2
                    have c17 : wY.cell? ⟨O17, 0, none⟩ = some (.slice va1 NR vc1) := (bY.cell (p := ⟨O17, 0, none⟩) (World.block_lt_of_cell? wX _ hP1.cl)).trans hP1.cl
                    refine ⟨g1, g2, hPB2.ch.cell c17 (no O17 (World.block_lt_of_cell? wY _ c17) (by omega)), hPB2.cl, (bthen bw bY).trans (hPB2.ch.below (fun q e => ?_) (bthen bw bY).size), ?_, hK2, hx2, by omega, by omega, by omega⟩
                    · rcases e with e | e
                      · omega
                      · omega
                    · rw [hPB2.ch.block DD1 (by omega) (no DD1 (by omega) (by omega)), bY.block DD1 ddl]
                      exact dd
                  clear hPB2 hK2 hS2 hD2 hwE hx2 HA1 HA2 HOO HY2
                  have d17 := HE.out.2.2.1
                  have d18 := HE.out.2.2.2.1
                  go_wp2_with fail
                  refine Calls.mono (same_true xs1 va1 va2 NR vc1 vc2 wE HE.out.2.2.2.2.2.2.2.1 (by omega) HE.out.1 HE.out.2.1) ?_
                  rintro e wF ⟨rfl, bF⟩
                  have f17 := (bF.cell (p := ⟨O17, 0, none⟩) (World.block_lt_of_cell? wE _ d17)).trans d17
                  have HF : Hid (Below w.heap.size w wF ∧ wF.heap[DD1]? = some (.deferred (some [])) ∧ wF.heap[DD2]? = some (.deferred (some []))) := ⟨bthen HE.out.2.2.2.2.1 bF, (bF.block DD1 (Array.getElem?_eq_some_iff.1 HE.out.2.2.2.2.2.1).1).trans HE.out.2.2.2.2.2.1, (bF.block DD2 (Array.getElem?_eq_some_iff.1 HE.out.2.2.2.2.2.2.1).1).trans HE.out.2.2.2.2.2.2.1⟩
                  clear bF d17 d18
                  have nn : ((NR : Int) == (NR : Int)) = true := by simp
                  go_wp2_with fail
                  have hF := HF.out
                  have hd := HE.out.2.2.2.2.2.2.2.2
                  have k2 : Ch (fun q => q = DD2) wF (wF.putObj DD2 (.deferred none)) := (Ch.ofGrown (grownBy_putObj' _ DD2 _)).mono (fun q _ h => by simpa using h.symm)
                  have h1 : (wF.putObj DD2 (.deferred none)).heap[DD1]? = some (.deferred (some [])) := (k2.block DD1 (Array.getElem?_eq_some_iff.1 hF.2.1).1 (fun e => hd.2.2 e)).trans hF.2.1
                  have k1 : Ch (fun q => q = DD1) (wF.putObj DD2 (.deferred none)) ((wF.putObj DD2 (.deferred none)).putObj DD1 (.deferred none)) := (Ch.ofGrown (grownBy_putObj' _ DD1 _)).mono (fun q _ h => by simpa using h.symm)
                  have b2 : Below w.heap.size w (wF.putObj DD2 (.deferred none)) := hF.1.trans (k2.below (fun q e => by have e' : q = DD2 := e; have := hd.2.1; omega) hF.1.size)
                  have b1 : Below w.heap.size w ((wF.putObj DD2 (.deferred none)).putObj DD1 (.deferred none)) := b2.trans (k1.below (fun q e => by have e' : q = DD1 := e; have := hd.1; omega) b2.size)
                  refine ⟨by simp, .inl ⟨_, _, rfl, run_takeDeferred hF.2.2, ⟨by simp, .inl ⟨_, _, rfl, run_takeDeferred h1, ?_⟩⟩⟩⟩
                  exact ⟨_, by simp [results, go_sem], rfl, b1⟩
end Go.Proofs.YtdjbfhllialinaaDoor
