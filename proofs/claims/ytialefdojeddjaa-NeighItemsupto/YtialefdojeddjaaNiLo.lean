/-
  Layer 15: weirlaw15.lost.
-/
import Derived.Test.YtialefdojeddjaaNiKa
import Derived.Deep.CutBlock
namespace Go.Proofs.Ytialefdojeddjaa
open Go.RowKit Go.Maps

theorem LO.box {w : World} {t M : Nat} {d : CF} {E : List EV} {gb : Nat} {gv : Value} {G : List Int} {L : List IR} {v : Value} {X X' : World} {O : Nat} {nb : NB} (h : LO w t M d E gb gv G L v X) (hb : NbrAt X O nb) (hO : w.heap.size ≤ O) (k : Ch (fun q => q = O) X X') : LO w t M d E gb gv G L v X' := by
  have n1 : ∀ q, itB L q → q ≠ O := fun q hq => by
    obtain ⟨c, hc⟩ := h.t.m.kind hq
    exact kind_ne' hc hb (by decide)
  have n2 : ∀ q, CB t M E q → q ≠ O := fun q hq e => cb_apart h.t.l.ca hb (by decide) (by decide) (by decide) (by rw [← e]; exact hq)
  refine ⟨⟨h.t.l.ch k n2 (fun q e => by have e' : q = O := e; omega), h.t.e2, h.t.m.ch k (fun q hq e => ?_) n1, h.t.ap, h.t.ol⟩, IL.ch h.g k (fun q hq e => ?_)⟩
  · obtain ⟨_, _, c2, h2⟩ := h.t.m.b.cells q hq
    exact kind_ne' h2 hb (by decide) e
  · obtain ⟨_, _, c2, h2⟩ := IL.cells h.g q hq
    exact kind_ne' h2 hb (by decide) e
set_option maxHeartbeats 12800000 in
set_option maxRecDepth 100000 in
theorem lost_any {w : World} {t M : Nat} {d : CF} {E : List EV} {X : World} (L : List IR) (la : Option Addr) (n lc : Nat) (h : IT w t M d E L (.slice la n lc) X) (hn : L.length = n) (hln : n ≤ 1048577) (hwf : ∀ r ∈ L, r.k.Wf) (hls : ∀ r ∈ L, r.it.length ≤ 64) (gb : Nat) (gv : Value) (G : List Int) (hG : IL X gb gv G) (hGl : G.length ≤ 100000) (hS : G = (L.filter (iG E)).flatMap IR.it) :
    Calls Try.prog 32 #[.pointer (some ⟨t, 0, none⟩), .slice la n lc, gv] X fun r X' => r = .returned (.bool true) ∧ IT w t M d E (L.map (iB E)) (.slice la n lc) X' := by
  obtain ⟨ga, gc, rfl⟩ := IL.form hG
  obtain ⟨gn, hgn⟩ : ∃ gn, gn = G.length := ⟨_, rfl⟩
  rw [← hgn] at hG ⊢
  have HGN : Hid (gn = G.length ∧ gn ≤ 100000) := ⟨hgn, by omega⟩
  obtain ⟨v, hv⟩ : ∃ v, v = Value.slice la n lc := ⟨_, rfl⟩
  obtain ⟨gv, hgv⟩ : ∃ gv, gv = Value.slice ga gn gc := ⟨_, rfl⟩
  obtain ⟨f, hf⟩ : ∃ f, f = iB E := ⟨_, rfl⟩
  have HX0 : Hid (LO w t M d E gb gv G (uptI f L 0) v X) := ⟨by rw [hv]; exact h, by rw [hgv]; exact hG⟩
  have HV : Hid (v = .slice la n lc ∧ gv = .slice ga gn gc) := ⟨hv, hgv⟩
  have HF : Hid (f = iB E) := hf
  have HN : Hid (L.length = n ∧ n ≤ 1048577) := ⟨hn, hln⟩
  have HWF : Hid (∀ r ∈ L, r.k.Wf) := hwf
  have HLS : Hid (∀ r ∈ L, r.it.length ≤ 64) := hls
  have HSI : Hid (G = (L.filter (iG E)).flatMap IR.it) := hS
  rw [← hf]
  clear hgn hv hgv hf h hn hln hwf hls hG hGl hS
  go_enter Try.func32, Try.ntmps32
  go_wp2_with fail
  go_loopw [7, 8] (fun nx ix wr => ∃ (i m : Nat), nx = .int .i64 (m : Int) ∧ ix = .int .i64 (i : Int) ∧ i ≤ n ∧ Hid (m = (gpre E L i).length) ∧ Hid (LO w t M d E gb gv G (uptI f L i) v wr)) (fun _ ix _ => n - (intOf ix).toNat)
  case atStart => exact ⟨0, 0, rfl, rfl, by omega, rfl, HX0⟩
  case round =>
    obtain ⟨i, m, rfl, rfl, hi, HM, HX⟩ := hrel
    clear HX0
    by_cases hlt : i < n
    · have k0 : (0 : Int) ≤ (i : Int) := by omega
      have k1 : (i : Int) < (n : Int) := by omega
      have k2 : ((i : Int)).toNat = i := by omega
      have wi : IntKind.i64.wrap ((i : Int) + 1) = (i : Int) + 1 := by have := HN.out.2; rw [IntKind.wrap_i64]; omega
      obtain ⟨r, hbi⟩ : ∃ r, L[i]? = some r := ⟨_, List.getElem?_eq_getElem (by rw [HN.out.1]; exact hlt)⟩
      have hLI := uptI_at f hbi
      obtain ⟨g, cap, hvs, _, _, _⟩ := HX.out.t.m.b.at i r.b (by rw [List.getElem?_map, hLI]; rfl)
      rw [List.length_map, uptI_len, HN.out.1] at hvs
      have hvv := HV.out.1
      rw [hvv] at hvs
      simp only [Value.slice.injEq] at hvs
      obtain ⟨rfl, _, rfl⟩ := hvs
      have HRB : Hid (∀ X, LO w t M d E gb gv G (uptI f L i) v X → X.rangeAt g (i * 21) (bvC r.b).toList) := fun X hX => by
        rw [hvv] at hX
        exact hX.rng hLI
      have HLT : Hid (i < n) := hlt
      have HBI : Hid (L[i]? = some r ∧ r ∈ L) := ⟨hbi, List.mem_of_getElem? hbi⟩
      have HWB : Hid (r.b.k.Wf) := HWF.out r HBI.out.2
      obtain ⟨is, his⟩ : ∃ is, is = (fE E r.b.k).isSome := ⟨_, rfl⟩
      have HIS : Hid ((fE E r.b.k).isSome = is) := his.symm
      obtain ⟨ln, hln⟩ : ∃ ln, ln = r.it.length := ⟨_, rfl⟩
      have HLN : Hid (ln ≤ 64 ∧ ln = r.it.length) := ⟨by rw [hln]; exact HLS.out r HBI.out.2, hln⟩
      obtain ⟨la2, hla2⟩ : ∃ x, x = r.b.la := ⟨_, rfl⟩
      obtain ⟨lc2, hlc2⟩ : ∃ x, x = r.b.lc := ⟨_, rfl⟩
      have hnn : r.b.n = ln := by rw [hln]; exact HX.out.t.m.len (List.mem_of_getElem? hLI)
      have HLV : Hid (ivS r.b = .slice la2 ln lc2) := by show _ = _; unfold ivS; rw [hla2, hlc2, hnn]
      have HC18 : Hid (∀ X, LO w t M d E gb gv G (uptI f L i) v X → X.cell? ⟨g, i * 21 + 18, none⟩ = some (.slice la2 ln lc2)) := fun X hX => by
        have h9 := HRB.out X hX 18 (ivS r.b) rfl
        rw [HLV.out] at h9
        exact h9
      have HSTB : Hid (∀ X X' O, LO w t M d E gb gv G (uptI f L i) v X → NbrAt X O nz → Ch (fun q => q = O) X X' → w.heap.size ≤ O → LO w t M d E gb gv G (uptI f L i) v X') := fun X X' O h1 h2 h3 h4 => h1.box h2 h4 h3
      clear hbi hLI hvv hi his hln hla2 hlc2 hnn
      go_upto_block 1 with fail
      go_cut [7] (fun nx wx => ∃ m2 : Nat, nx = .int .i64 (m2 : Int) ∧ Hid (m2 = (gpre E L (i + 1)).length ∧ LO w t M d E gb gv G (uptI f L (i + 1)) v wx))
      case first =>
        go_upto_region 5 with fail
        refine MixH.start (fun A => A.rangeAt g (i * 21) (bvC r.b).toList) (by kernel_rfl) ?_
        obtain ⟨wA, hwA⟩ : ∃ wA, wA = wr.drew := ⟨_, rfl⟩
        have bdr : Below wr.heap.size wr wA := by rw [hwA]; exact (Below.refl _ _).drew
        have HA : Hid (LO w t M d E gb gv G (uptI f L i) v wA) := HX.out.below bdr
        have hS := HRB.out wA HA.out
        rw [← hwA]
        clear hwA bdr HX
        refine MixH.takes [true, true, true] 15 (by kernel_rfl) (by kernel_rfl) (by decide) (by kernel_rfl) hS (fun K hK => ?_)
        simp only [Mix.pick]
        repeat (go_big_quiet_step (fail))
        refine wpQuiet_nil (hK _ ?_)
        clear hK K
        refine MixH.takes [false, false, false, true] 14 (by kernel_rfl) (by kernel_rfl) (by decide) (by kernel_rfl) hS (fun K hK => ?_)
        simp only [Mix.pick]
        repeat (go_big_quiet_step (fail))
        refine wpQuiet_nil (hK _ ?_)
        clear hK K
        refine MixH.takes [false, false, false, false, true] 13 (by kernel_rfl) (by kernel_rfl) (by decide) (by kernel_rfl) hS (fun K hK => ?_)
        simp only [Mix.pick]
        repeat (go_big_quiet_step (fail))
        refine wpQuiet_nil (hK _ ?_)
        clear hK K
        refine MixH.take 12 5 _ (.int .i64 r.b.k.pt) rfl (by kernel_rfl) (by kernel_rfl) (by kernel_rfl) (by kernel_rfl) (yields_int (.tmp 23) rfl ⟨g, i * 21, none⟩ (.int .i64 r.b.k.pt) rfl rfl (fun A hA => hA 0 _ rfl)) hS (fun a' ha => ?_)
        simp only [Act.put, List.setIfInBounds_toArray, List.set_cons_succ, List.set_cons_zero] at ha
        subst ha
        refine MixH.takes [false, false, false, false, false, false, true, true] 10 (by kernel_rfl) (by kernel_rfl) (by decide) (by kernel_rfl) hS (fun K hK => ?_)
        simp only [Mix.pick]
        repeat (go_big_quiet_step (fail))
        refine wpQuiet_nil (hK _ ?_)
        clear hK K
        refine MixH.takes [false, false, false, false, false, false, false, false, true] 9 (by kernel_rfl) (by kernel_rfl) (by decide) (by kernel_rfl) hS (fun K hK => ?_)
        simp only [Mix.pick]
        repeat (go_big_quiet_step (fail))
        refine wpQuiet_nil (hK _ ?_)
        clear hK K
        refine MixH.takes [false, false, false, false, false, false, false, false, false, true] 8 (by kernel_rfl) (by kernel_rfl) (by decide) (by kernel_rfl) hS (fun K hK => ?_)
        simp only [Mix.pick]
        repeat (go_big_quiet_step (fail))
        refine wpQuiet_nil (hK _ ?_)
        clear hK K
        refine MixH.take 7 10 _ (.agg (ipCells r.b.k.V r.b.k.x)) rfl (by kernel_rfl) (by kernel_rfl) (by kernel_rfl) (by kernel_rfl) (yields_ipr (.tmp 28) rfl g (i * 21 + 1) r.b.k.V r.b.k.x rfl rfl (fun A hA => bv_ip hA)) hS (fun a' ha => ?_)
        simp only [Act.put, List.setIfInBounds_toArray, List.set_cons_succ, List.set_cons_zero] at ha
        subst ha
        refine MixH.pair [false, false, false, false, false, false, false, false, false, false, false, true] [false, false, false, false, false, false, false, false, false, false, false, false, false, false, false, true] 6 11 15 _ _ rfl rfl rfl rfl (by kernel_rfl) (by kernel_rfl) (fun K hK => ?_) (fun K hK => ?_)
        · skip
          simp only [Mix.pick]
          have QG : Hid _ := HA.out.t.l.get r.b.k HWB.out
          rw [HIS.out] at QG
          go_wp2_with fail
          refine Calls.mono QG.out ?_
          rintro rr wC ⟨rfl, hlB, bB⟩
          have HC : Hid (LO w t M d E gb gv G (uptI f L i) v wC) := HA.out.below bB
          replace hS := HRB.out wC HC.out
          go_wp2
          refine ⟨rfl, hK _ _ hS ?_⟩
          clear hK K hlB bB QG HA
          refine MixH.takes [false, false, false, false, false, false, false, false, false, false, false, false, true] 5 (by kernel_rfl) (by kernel_rfl) (by decide) (by kernel_rfl) hS (fun K hK => ?_)
          simp only [Mix.pick]
          repeat (go_big_quiet_step (fail))
          refine wpQuiet_nil (hK _ ?_)
          clear hK K
          refine MixH.takes [false, false, false, false, false, false, false, false, false, false, false, false, false, true, true] 3 (by kernel_rfl) (by kernel_rfl) (by decide) (by kernel_rfl) hS (fun K hK => ?_)
          simp only [Mix.pick]
          repeat (go_big_quiet_step (fail))
          refine wpQuiet_nil (hK _ ?_)
          clear hK K
          refine MixH.one [false, false, false, false, false, false, false, false, false, false, false, false, false, false, false, true] 2 15 _ rfl rfl (by kernel_rfl) (by kernel_rfl) (fun K hK => ?_)
          simp only [Mix.pick]
          have HD : Hid (LO w t M d E gb gv G (uptI f L i) v (wC.alloc (.cells (nbC nz) 48))) := HC.out.below ((Below.refl _ _).alloc (Nat.le_refl _) _)
          have hSn := HRB.out _ HD.out
          have hb9 : NbrAt (wC.alloc (.cells (nbC nz) 48)) wC.heap.size nz := nbr_new wC nz
          have hz9 : w.heap.size ≤ wC.heap.size := HC.out.t.l.bel.size
          go_wp2_with (refine wpList_alloc_nbr rfl rfl ?_)
          replace hS := hSn
          refine ⟨rfl, hK _ _ hS ?_⟩
          clear hK K
          obtain ⟨O9, hO9⟩ : ∃ O, O = wC.heap.size := ⟨_, rfl⟩
          obtain ⟨wD, hwD⟩ : ∃ Y, Y = wC.alloc (.cells (nbC nz) 48) := ⟨_, rfl⟩
          rw [← hO9, ← hwD] at hb9
          rw [← hO9] at hz9
          rw [← hwD] at HD hS hSn
          rw [← hO9, ← hwD]
          have HO9 : Hid (NbrAt wD O9 nz ∧ w.heap.size ≤ O9) := ⟨hb9, hz9⟩
          clear hb9 hz9 hO9 hwD hSn HC
          refine MixH.one [false, false, false, false, false, false, false, false, false, false, false, false, false, false, false, false, true] 1 16 _ rfl rfl (by kernel_rfl) (by kernel_rfl) (fun K hK => ?_)
          simp only [Mix.pick]
          refine wpList_store_nbr (.tmp 9) (.tmp 31) rfl rfl O9 nz (gtN E r.b.k) rfl rfl HO9.out.1 rfl ?_
          intro wF h2 k2
          have HB : Hid (LO w t M d E gb gv G (uptI f L i) v wF) := HSTB.out wD wF O9 HD.out HO9.out.1 k2 HO9.out.2
          replace hS := HRB.out wF HB.out
          clear h2 k2
          go_wp2
          clear HD HO9
          refine ⟨rfl, hK _ _ hS ?_⟩
          clear hK K
          refine MixH.takes [false, false, false, false, false, false, false, false, false, false, false, false, false, false, false, false, false, true] 0 (by kernel_rfl) (by kernel_rfl) (by decide) (by kernel_rfl) hS (fun K hK => ?_)
          simp only [Mix.pick]
          repeat (go_big_quiet_step (fail))
          refine wpQuiet_nil (hK _ ?_)
          clear hK K
          refine MixH.done (by kernel_rfl) ?_
          clear hS
          have c18 := HC18.out wF HB.out
          cases his : is with
          | true =>
            subst his
            have HME : Hid (m = (gpre E L (i + 1)).length ∧ LO w t M d E gb gv G (uptI f L (i + 1)) v wF) := by
              have e1 : iG E r = false := by
                unfold iG
                have h9 := HIS.out
                cases hf : fE E r.k with
                | none => rw [hf] at h9; cases h9
                | some e => rfl
              have e2 : f r = r := by rw [HF.out]; unfold iB; rw [if_neg (by rw [e1]; decide)]
              refine ⟨by rw [gpre_off HBI.out.1 e1]; exact HM.out, ?_⟩
              rw [uptI_same f HBI.out.1 e2]
              exact HB.out
            clear HB
            go_wp2_with fail
            go_meet
            exact ⟨_, rfl, HME⟩
          | false =>
            subst his
            by_cases hz : ln = 0
            · have q0 : ((ln : Int) == 0) = true := by rw [hz]; rfl
              have HME : Hid (m = (gpre E L (i + 1)).length ∧ LO w t M d E gb gv G (uptI f L (i + 1)) v wF) := by
                have e1 : iG E r = false := by
                  unfold iG
                  have h9 := HLN.out.2
                  rw [hz] at h9
                  rw [List.eq_nil_of_length_eq_zero h9.symm]
                  simp
                have e2 : f r = r := by rw [HF.out]; unfold iB; rw [if_neg (by rw [e1]; decide)]
                refine ⟨by rw [gpre_off HBI.out.1 e1]; exact HM.out, ?_⟩
                rw [uptI_same f HBI.out.1 e2]
                exact HB.out
              clear HB hz
              go_wp2_with fail
              go_meet
              exact ⟨_, rfl, HME⟩
            · have q0 : ((ln : Int) == 0) = false := by simpa using hz
              have HIG : Hid (iG E r = true) := by
                show _ = _
                unfold iG
                have h9 := HIS.out
                have h8 := HLN.out.2
                cases hf : fE E r.k with
                | some e => rw [hf] at h9; cases h9
                | none =>
                  cases hi : r.it with
                  | nil => rw [hi] at h8; exact absurd h8 hz
                  | cons a l => rfl
              have HGO : Hid (∀ j x, r.it[j]? = some x → G[m + j]? = some x) := fun j x hx => by
                have hj := (List.getElem?_eq_some_iff.1 hx).1
                rw [HSI.out, HM.out, gone_at HBI.out.1 HIG.out hj]
                exact hx
              obtain ⟨x0, hx0⟩ : ∃ x0, r.it[0]? = some x0 := ⟨_, List.getElem?_eq_getElem (by have := HLN.out.2; omega)⟩
              have HRM : Hid (r ∈ uptI f L i) := List.mem_of_getElem? (uptI_at f HBI.out.1)
              obtain ⟨qi, hqi, _⟩ := HB.out.item HRM.out HLV.out hx0
              subst hqi
              obtain ⟨qg, hqg, _⟩ := HB.out.gone HV.out.2 (HGO.out 0 x0 hx0)
              subst hqg
              have HIT : Hid (∀ X, LO w t M d E gb gv G (uptI f L i) v X → ∀ j x, r.it[j]? = some x → X.cell? ⟨qi, j, none⟩ = some (.int .i64 x)) := fun X hX j x hx => by
                obtain ⟨q, hq, hc⟩ := hX.item HRM.out HLV.out hx
                cases hq
                exact hc
              have HGT : Hid (∀ X, LO w t M d E gb gv G (uptI f L i) v X → ∀ p x, G[p]? = some x → X.cell? ⟨qg, p, none⟩ = some (.int .i64 x)) := fun X hX p x hx => by
                obtain ⟨q, hq, hc⟩ := hX.gone HV.out.2 hx
                cases hq
                exact hc
              clear hx0
              go_wp2_with fail
              go_loopw [7, 11] (fun nx jx wx => ∃ (j p : Nat), nx = .int .i64 (p : Int) ∧ jx = .int .i64 (j : Int) ∧ j ≤ ln ∧ Hid (p = m + j) ∧ Hid (LO w t M d E gb gv G (uptI f L i) v wx)) (fun _ jx _ => ln - (intOf jx).toNat)
              case atStart => exact ⟨0, m, rfl, rfl, by omega, rfl, HB⟩
              case round =>
                obtain ⟨j, p, rfl, rfl, hj, HP, HJ⟩ := hrel
                clear HB c18
                have c18 := HC18.out wr HJ.out
                by_cases hjl : j < ln
                · obtain ⟨x, hx⟩ : ∃ x, r.it[j]? = some x := ⟨_, List.getElem?_eq_getElem (by have := HLN.out.2; omega)⟩
                  have hgx : G[p]? = some x := by rw [HP.out]; exact HGO.out j x hx
                  have hpl : p < gn := by have := (List.getElem?_eq_some_iff.1 hgx).1; have := HGN.out.1; omega
                  have j0 : (0 : Int) ≤ (j : Int) := by omega
                  have j1 : (j : Int) < (ln : Int) := by omega
                  have j2 : ((j : Int)).toNat = j := by omega
                  have wj : IntKind.i64.wrap ((j : Int) + 1) = (j : Int) + 1 := by have := HLN.out.1; rw [IntKind.wrap_i64]; omega
                  have p0 : (0 : Int) ≤ (p : Int) := by omega
                  have p1 : (p : Int) < (gn : Int) := by omega
                  have p2 : ((p : Int)).toNat = p := by omega
                  have p3 : decide ((p : Int) ≥ (gn : Int)) = false := by rw [decide_eq_false_iff_not]; omega
                  have p4 : decide (gn ≤ p) = false := by rw [decide_eq_false_iff_not]; omega
                  have p5 : ¬ gn ≤ p := by omega
                  have wp : IntKind.i64.wrap ((p : Int) + 1) = ((p + 1 : Nat) : Int) := by have := HGN.out.2; rw [IntKind.wrap_i64]; omega
                  have qx : (x != x) = false := by simp
                  have HJL : Hid (j < ln) := hjl
                  have HXS : Hid (∀ X, LO w t M d E gb gv G (uptI f L i) v X → X.cell? ⟨g, i * 21 + 18, none⟩ = some (.slice (some ⟨qi, 0, none⟩) ln lc2) ∧ X.cell? ⟨qg, p, none⟩ = some (.int .i64 x) ∧ X.cell? ⟨qi, j, none⟩ = some (.int .i64 x)) := fun X hX => ⟨HC18.out X hX, HGT.out X hX p x hgx, HIT.out X hX j x hx⟩
                  clear hx hgx hpl hj
                  go_upto_region 10 with fail
                  refine MixH.start (fun X => X.cell? ⟨g, i * 21 + 18, none⟩ = some (.slice (some ⟨qi, 0, none⟩) ln lc2) ∧ X.cell? ⟨qg, p, none⟩ = some (.int .i64 x) ∧ X.cell? ⟨qi, j, none⟩ = some (.int .i64 x)) (by kernel_rfl) ?_
                  obtain ⟨wZ, hwZ⟩ : ∃ wZ, wZ = wr.drew := ⟨_, rfl⟩
                  have bdr : Below wr.heap.size wr wZ := by rw [hwZ]; exact (Below.refl _ _).drew
                  have HZ : Hid (LO w t M d E gb gv G (uptI f L i) v wZ) := HJ.out.below bdr
                  have hS := HXS.out wZ HZ.out
                  rw [← hwZ]
                  clear hwZ bdr HJ c18
                  refine MixH.takes [true, true] 17 (by kernel_rfl) (by kernel_rfl) (by decide) (by kernel_rfl) hS (fun K hK => ?_)
                  simp only [Mix.pick]
                  repeat (go_big_quiet_step (fail))
                  refine wpQuiet_nil (hK _ ?_)
                  clear hK K
                  refine MixH.takes [false, false, true] 16 (by kernel_rfl) (by kernel_rfl) (by decide) (by kernel_rfl) hS (fun K hK => ?_)
                  simp only [Mix.pick]
                  repeat (go_big_quiet_step (fail))
                  refine wpQuiet_nil (hK _ ?_)
                  clear hK K
                  refine MixH.takes [false, false, false, true] 15 (by kernel_rfl) (by kernel_rfl) (by decide) (by kernel_rfl) hS (fun K hK => ?_)
                  simp only [Mix.pick]
                  repeat (go_big_quiet_step (fail))
                  refine wpQuiet_nil (hK _ ?_)
                  clear hK K
                  refine MixH.takes [false, false, false, false, true] 14 (by kernel_rfl) (by kernel_rfl) (by decide) (by kernel_rfl) hS (fun K hK => ?_)
                  simp only [Mix.pick]
                  repeat (go_big_quiet_step (fail))
                  refine wpQuiet_nil (hK _ ?_)
                  clear hK K
                  refine MixH.takes [false, false, false, false, false, true, true] 12 (by kernel_rfl) (by kernel_rfl) (by decide) (by kernel_rfl) hS (fun K hK => ?_)
                  simp only [Mix.pick]
                  repeat (go_big_quiet_step (fail))
                  refine wpQuiet_nil (hK _ ?_)
                  clear hK K
                  refine MixH.takes [false, false, false, false, false, false, false, true] 11 (by kernel_rfl) (by kernel_rfl) (by decide) (by kernel_rfl) hS (fun K hK => ?_)
                  simp only [Mix.pick]
                  repeat (go_big_quiet_step (fail))
                  refine wpQuiet_nil (hK _ ?_)
                  clear hK K
                  refine MixH.take 10 8 _ (.int .i64 x) rfl (by kernel_rfl) (by kernel_rfl) (by kernel_rfl) (by kernel_rfl) (yields_int (.tmp 60) rfl ⟨qg, p, none⟩ (.int .i64 x) rfl rfl (fun A hA => hA.2.1)) hS (fun a' ha => ?_)
                  simp only [Act.put, List.setIfInBounds_toArray, List.set_cons_succ, List.set_cons_zero] at ha
                  subst ha
                  refine MixH.takes [false, false, false, false, false, false, false, false, false, true, true] 8 (by kernel_rfl) (by kernel_rfl) (by decide) (by kernel_rfl) hS (fun K hK => ?_)
                  simp only [Mix.pick]
                  repeat (go_big_quiet_step (fail))
                  refine wpQuiet_nil (hK _ ?_)
                  clear hK K
                  refine MixH.takes [false, false, false, false, false, false, false, false, false, false, false, true] 7 (by kernel_rfl) (by kernel_rfl) (by decide) (by kernel_rfl) hS (fun K hK => ?_)
                  simp only [Mix.pick]
                  repeat (go_big_quiet_step (fail))
                  refine wpQuiet_nil (hK _ ?_)
                  clear hK K
                  refine MixH.takes [false, false, false, false, false, false, false, false, false, false, false, false, true] 6 (by kernel_rfl) (by kernel_rfl) (by decide) (by kernel_rfl) hS (fun K hK => ?_)
                  simp only [Mix.pick]
                  repeat (go_big_quiet_step (fail))
                  refine wpQuiet_nil (hK _ ?_)
                  clear hK K
                  refine MixH.take 5 13 _ (.slice (some ⟨qi, 0, none⟩) ln lc2) rfl (by kernel_rfl) (by kernel_rfl) (by kernel_rfl) (by kernel_rfl) (yields_ints (.tmp 65) rfl ⟨g, i * 21 + 18, none⟩ (.slice (some ⟨qi, 0, none⟩) ln lc2) rfl rfl (fun A hA => hA.1)) hS (fun a' ha => ?_)
                  simp only [Act.put, List.setIfInBounds_toArray, List.set_cons_succ, List.set_cons_zero] at ha
                  subst ha
                  refine MixH.takes [false, false, false, false, false, false, false, false, false, false, false, false, false, false, true] 4 (by kernel_rfl) (by kernel_rfl) (by decide) (by kernel_rfl) hS (fun K hK => ?_)
                  simp only [Mix.pick]
                  repeat (go_big_quiet_step (fail))
                  refine wpQuiet_nil (hK _ ?_)
                  clear hK K
                  refine MixH.takes [false, false, false, false, false, false, false, false, false, false, false, false, false, false, false, true] 3 (by kernel_rfl) (by kernel_rfl) (by decide) (by kernel_rfl) hS (fun K hK => ?_)
                  simp only [Mix.pick]
                  repeat (go_big_quiet_step (fail))
                  refine wpQuiet_nil (hK _ ?_)
                  clear hK K
                  refine MixH.take 2 16 _ (.int .i64 x) rfl (by kernel_rfl) (by kernel_rfl) (by kernel_rfl) (by kernel_rfl) (yields_int (.tmp 68) rfl ⟨qi, j, none⟩ (.int .i64 x) rfl rfl (fun A hA => hA.2.2)) hS (fun a' ha => ?_)
                  simp only [Act.put, List.setIfInBounds_toArray, List.set_cons_succ, List.set_cons_zero] at ha
                  subst ha
                  refine MixH.takes [false, false, false, false, false, false, false, false, false, false, false, false, false, false, false, false, false, true] 1 (by kernel_rfl) (by kernel_rfl) (by decide) (by kernel_rfl) hS (fun K hK => ?_)
                  simp only [Mix.pick]
                  repeat (go_big_quiet_step (fail))
                  refine wpQuiet_nil (hK _ ?_)
                  clear hK K
                  refine MixH.takes [false, false, false, false, false, false, false, false, false, false, false, false, false, false, false, false, false, false, true] 0 (by kernel_rfl) (by kernel_rfl) (by decide) (by kernel_rfl) hS (fun K hK => ?_)
                  simp only [Mix.pick]
                  repeat (go_big_quiet_step (fail))
                  refine wpQuiet_nil (hK _ ?_)
                  clear hK K
                  refine MixH.done (by kernel_rfl) ?_
                  clear hS
                  go_wp2_with fail
                  go_roundw
                  case rel => exact ⟨j + 1, p + 1, by first | rfl | go_num, by first | rfl | go_num, by have := HJL.out; omega, by have := HP.out; show _ = _; omega, HZ⟩
                  case measure => have := HJL.out; simp [intOf]; omega
                · have hnj : ¬ ((j : Int) < (ln : Int)) := by omega
                  have f18 : wr.frozen? ⟨g, i * 21 + 18, none⟩ = false := by have h9 := HJ.out; rw [HV.out.1] at h9; exact h9.fz _
                  have HME : Hid (p = (gpre E L (i + 1)).length ∧ LO w t M d E gb gv G (uptI f L (i + 1)) v (wr.setCell ⟨g, i * 21 + 18, none⟩ (.slice none 0 0))) := by
                    refine ⟨by rw [gpre_on HBI.out.1 HIG.out, List.length_append, ← HM.out, ← HLN.out.2, HP.out]; omega, ?_⟩
                    have h9 := HJ.out
                    rw [HV.out.1] at h9 ⊢
                    have h8 := h9.clear (by rw [uptI_len]; exact HN.out.1) (uptI_at f HBI.out.1)
                    have e2 : f r = irp r none 0 0 [] := by rw [HF.out]; unfold iB; rw [if_pos HIG.out]
                    rw [← e2, uptI_next f HBI.out.1] at h8
                    exact h8
                  clear HJ hj
                  go_wp2_with fail
                  go_meet
                  exact ⟨_, rfl, HME⟩
        · skip
          simp only [Mix.pick]
          have HD : Hid (LO w t M d E gb gv G (uptI f L i) v (wA.alloc (.cells (nbC nz) 48))) := HA.out.below ((Below.refl _ _).alloc (Nat.le_refl _) _)
          have hSn := HRB.out _ HD.out
          have hb9 : NbrAt (wA.alloc (.cells (nbC nz) 48)) wA.heap.size nz := nbr_new wA nz
          have hz9 : w.heap.size ≤ wA.heap.size := HA.out.t.l.bel.size
          go_wp2_with (refine wpList_alloc_nbr rfl rfl ?_)
          replace hS := hSn
          refine ⟨rfl, hK _ _ hS ?_⟩
          clear hK K
          obtain ⟨O9, hO9⟩ : ∃ O, O = wA.heap.size := ⟨_, rfl⟩
          obtain ⟨wD, hwD⟩ : ∃ Y, Y = wA.alloc (.cells (nbC nz) 48) := ⟨_, rfl⟩
          rw [← hO9, ← hwD] at hb9
          rw [← hO9] at hz9
          rw [← hwD] at HD hS hSn
          rw [← hO9, ← hwD]
          have HO9 : Hid (NbrAt wD O9 nz ∧ w.heap.size ≤ O9) := ⟨hb9, hz9⟩
          clear hb9 hz9 hO9 hwD hSn HA
          refine MixH.one [false, false, false, false, false, false, false, false, false, false, false, true] 5 11 _ rfl rfl (by kernel_rfl) (by kernel_rfl) (fun K hK => ?_)
          simp only [Mix.pick]
          have QG : Hid _ := HD.out.t.l.get r.b.k HWB.out
          rw [HIS.out] at QG
          go_wp2_with fail
          refine Calls.mono QG.out ?_
          rintro rr wC ⟨rfl, hlB, bB⟩
          have HC : Hid (LO w t M d E gb gv G (uptI f L i) v wC) := HD.out.below bB
          replace hS := HRB.out wC HC.out
          have HO8 : Hid (NbrAt wC O9 nz ∧ w.heap.size ≤ O9) := ⟨HO9.out.1.below bB, HO9.out.2⟩
          clear hlB bB QG HD HO9
          have HO9 := HO8
          clear HO8
          go_wp2
          refine ⟨rfl, hK _ _ hS ?_⟩
          clear hK K
          refine MixH.takes [false, false, false, false, false, false, false, false, false, false, false, false, true] 4 (by kernel_rfl) (by kernel_rfl) (by decide) (by kernel_rfl) hS (fun K hK => ?_)
          simp only [Mix.pick]
          repeat (go_big_quiet_step (fail))
          refine wpQuiet_nil (hK _ ?_)
          clear hK K
          refine MixH.takes [false, false, false, false, false, false, false, false, false, false, false, false, false, true, true] 2 (by kernel_rfl) (by kernel_rfl) (by decide) (by kernel_rfl) hS (fun K hK => ?_)
          simp only [Mix.pick]
          repeat (go_big_quiet_step (fail))
          refine wpQuiet_nil (hK _ ?_)
          clear hK K
          refine MixH.one [false, false, false, false, false, false, false, false, false, false, false, false, false, false, false, false, true] 1 16 _ rfl rfl (by kernel_rfl) (by kernel_rfl) (fun K hK => ?_)
          simp only [Mix.pick]
          refine wpList_store_nbr (.tmp 9) (.tmp 31) rfl rfl O9 nz (gtN E r.b.k) rfl rfl HO9.out.1 rfl ?_
          intro wF h2 k2
          have HB : Hid (LO w t M d E gb gv G (uptI f L i) v wF) := HSTB.out wC wF O9 HC.out HO9.out.1 k2 HO9.out.2
          replace hS := HRB.out wF HB.out
          clear h2 k2
          go_wp2
          clear HC HO9
          refine ⟨rfl, hK _ _ hS ?_⟩
          clear hK K
          refine MixH.takes [false, false, false, false, false, false, false, false, false, false, false, false, false, false, false, false, false, true] 0 (by kernel_rfl) (by kernel_rfl) (by decide) (by kernel_rfl) hS (fun K hK => ?_)
          simp only [Mix.pick]
          repeat (go_big_quiet_step (fail))
          refine wpQuiet_nil (hK _ ?_)
          clear hK K
          refine MixH.done (by kernel_rfl) ?_
          clear hS
          have c18 := HC18.out wF HB.out
          cases his : is with
          | true =>
            subst his
            have HME : Hid (m = (gpre E L (i + 1)).length ∧ LO w t M d E gb gv G (uptI f L (i + 1)) v wF) := by
              have e1 : iG E r = false := by
                unfold iG
                have h9 := HIS.out
                cases hf : fE E r.k with
                | none => rw [hf] at h9; cases h9
                | some e => rfl
              have e2 : f r = r := by rw [HF.out]; unfold iB; rw [if_neg (by rw [e1]; decide)]
              refine ⟨by rw [gpre_off HBI.out.1 e1]; exact HM.out, ?_⟩
              rw [uptI_same f HBI.out.1 e2]
              exact HB.out
            clear HB
            go_wp2_with fail
            go_meet
            exact ⟨_, rfl, HME⟩
          | false =>
            subst his
            by_cases hz : ln = 0
            · have q0 : ((ln : Int) == 0) = true := by rw [hz]; rfl
              have HME : Hid (m = (gpre E L (i + 1)).length ∧ LO w t M d E gb gv G (uptI f L (i + 1)) v wF) := by
                have e1 : iG E r = false := by
                  unfold iG
                  have h9 := HLN.out.2
                  rw [hz] at h9
                  rw [List.eq_nil_of_length_eq_zero h9.symm]
                  simp
                have e2 : f r = r := by rw [HF.out]; unfold iB; rw [if_neg (by rw [e1]; decide)]
                refine ⟨by rw [gpre_off HBI.out.1 e1]; exact HM.out, ?_⟩
                rw [uptI_same f HBI.out.1 e2]
                exact HB.out
              clear HB hz
              go_wp2_with fail
              go_meet
              exact ⟨_, rfl, HME⟩
            · have q0 : ((ln : Int) == 0) = false := by simpa using hz
              have HIG : Hid (iG E r = true) := by
                show _ = _
                unfold iG
                have h9 := HIS.out
                have h8 := HLN.out.2
                cases hf : fE E r.k with
                | some e => rw [hf] at h9; cases h9
                | none =>
                  cases hi : r.it with
                  | nil => rw [hi] at h8; exact absurd h8 hz
                  | cons a l => rfl
              have HGO : Hid (∀ j x, r.it[j]? = some x → G[m + j]? = some x) := fun j x hx => by
                have hj := (List.getElem?_eq_some_iff.1 hx).1
                rw [HSI.out, HM.out, gone_at HBI.out.1 HIG.out hj]
                exact hx
              obtain ⟨x0, hx0⟩ : ∃ x0, r.it[0]? = some x0 := ⟨_, List.getElem?_eq_getElem (by have := HLN.out.2; omega)⟩
              have HRM : Hid (r ∈ uptI f L i) := List.mem_of_getElem? (uptI_at f HBI.out.1)
              obtain ⟨qi, hqi, _⟩ := HB.out.item HRM.out HLV.out hx0
              subst hqi
              obtain ⟨qg, hqg, _⟩ := HB.out.gone HV.out.2 (HGO.out 0 x0 hx0)
              subst hqg
              have HIT : Hid (∀ X, LO w t M d E gb gv G (uptI f L i) v X → ∀ j x, r.it[j]? = some x → X.cell? ⟨qi, j, none⟩ = some (.int .i64 x)) := fun X hX j x hx => by
                obtain ⟨q, hq, hc⟩ := hX.item HRM.out HLV.out hx
                cases hq
                exact hc
              have HGT : Hid (∀ X, LO w t M d E gb gv G (uptI f L i) v X → ∀ p x, G[p]? = some x → X.cell? ⟨qg, p, none⟩ = some (.int .i64 x)) := fun X hX p x hx => by
                obtain ⟨q, hq, hc⟩ := hX.gone HV.out.2 hx
                cases hq
                exact hc
              clear hx0
              go_wp2_with fail
              go_loopw [7, 11] (fun nx jx wx => ∃ (j p : Nat), nx = .int .i64 (p : Int) ∧ jx = .int .i64 (j : Int) ∧ j ≤ ln ∧ Hid (p = m + j) ∧ Hid (LO w t M d E gb gv G (uptI f L i) v wx)) (fun _ jx _ => ln - (intOf jx).toNat)
              case atStart => exact ⟨0, m, rfl, rfl, by omega, rfl, HB⟩
              case round =>
                obtain ⟨j, p, rfl, rfl, hj, HP, HJ⟩ := hrel
                clear HB c18
                have c18 := HC18.out wr HJ.out
                by_cases hjl : j < ln
                · obtain ⟨x, hx⟩ : ∃ x, r.it[j]? = some x := ⟨_, List.getElem?_eq_getElem (by have := HLN.out.2; omega)⟩
                  have hgx : G[p]? = some x := by rw [HP.out]; exact HGO.out j x hx
                  have hpl : p < gn := by have := (List.getElem?_eq_some_iff.1 hgx).1; have := HGN.out.1; omega
                  have j0 : (0 : Int) ≤ (j : Int) := by omega
                  have j1 : (j : Int) < (ln : Int) := by omega
                  have j2 : ((j : Int)).toNat = j := by omega
                  have wj : IntKind.i64.wrap ((j : Int) + 1) = (j : Int) + 1 := by have := HLN.out.1; rw [IntKind.wrap_i64]; omega
                  have p0 : (0 : Int) ≤ (p : Int) := by omega
                  have p1 : (p : Int) < (gn : Int) := by omega
                  have p2 : ((p : Int)).toNat = p := by omega
                  have p3 : decide ((p : Int) ≥ (gn : Int)) = false := by rw [decide_eq_false_iff_not]; omega
                  have p4 : decide (gn ≤ p) = false := by rw [decide_eq_false_iff_not]; omega
                  have p5 : ¬ gn ≤ p := by omega
                  have wp : IntKind.i64.wrap ((p : Int) + 1) = ((p + 1 : Nat) : Int) := by have := HGN.out.2; rw [IntKind.wrap_i64]; omega
                  have qx : (x != x) = false := by simp
                  have HJL : Hid (j < ln) := hjl
                  have HXS : Hid (∀ X, LO w t M d E gb gv G (uptI f L i) v X → X.cell? ⟨g, i * 21 + 18, none⟩ = some (.slice (some ⟨qi, 0, none⟩) ln lc2) ∧ X.cell? ⟨qg, p, none⟩ = some (.int .i64 x) ∧ X.cell? ⟨qi, j, none⟩ = some (.int .i64 x)) := fun X hX => ⟨HC18.out X hX, HGT.out X hX p x hgx, HIT.out X hX j x hx⟩
                  clear hx hgx hpl hj
                  go_upto_region 10 with fail
                  refine MixH.start (fun X => X.cell? ⟨g, i * 21 + 18, none⟩ = some (.slice (some ⟨qi, 0, none⟩) ln lc2) ∧ X.cell? ⟨qg, p, none⟩ = some (.int .i64 x) ∧ X.cell? ⟨qi, j, none⟩ = some (.int .i64 x)) (by kernel_rfl) ?_
                  obtain ⟨wZ, hwZ⟩ : ∃ wZ, wZ = wr.drew := ⟨_, rfl⟩
                  have bdr : Below wr.heap.size wr wZ := by rw [hwZ]; exact (Below.refl _ _).drew
                  have HZ : Hid (LO w t M d E gb gv G (uptI f L i) v wZ) := HJ.out.below bdr
                  have hS := HXS.out wZ HZ.out
                  rw [← hwZ]
                  clear hwZ bdr HJ c18
                  refine MixH.takes [true, true] 17 (by kernel_rfl) (by kernel_rfl) (by decide) (by kernel_rfl) hS (fun K hK => ?_)
                  simp only [Mix.pick]
                  repeat (go_big_quiet_step (fail))
                  refine wpQuiet_nil (hK _ ?_)
                  clear hK K
                  refine MixH.takes [false, false, true] 16 (by kernel_rfl) (by kernel_rfl) (by decide) (by kernel_rfl) hS (fun K hK => ?_)
                  simp only [Mix.pick]
                  repeat (go_big_quiet_step (fail))
                  refine wpQuiet_nil (hK _ ?_)
                  clear hK K
                  refine MixH.takes [false, false, false, true] 15 (by kernel_rfl) (by kernel_rfl) (by decide) (by kernel_rfl) hS (fun K hK => ?_)
                  simp only [Mix.pick]
                  repeat (go_big_quiet_step (fail))
                  refine wpQuiet_nil (hK _ ?_)
                  clear hK K
                  refine MixH.takes [false, false, false, false, true] 14 (by kernel_rfl) (by kernel_rfl) (by decide) (by kernel_rfl) hS (fun K hK => ?_)
                  simp only [Mix.pick]
                  repeat (go_big_quiet_step (fail))
                  refine wpQuiet_nil (hK _ ?_)
                  clear hK K
                  refine MixH.takes [false, false, false, false, false, true, true] 12 (by kernel_rfl) (by kernel_rfl) (by decide) (by kernel_rfl) hS (fun K hK => ?_)
                  simp only [Mix.pick]
                  repeat (go_big_quiet_step (fail))
                  refine wpQuiet_nil (hK _ ?_)
                  clear hK K
                  refine MixH.takes [false, false, false, false, false, false, false, true] 11 (by kernel_rfl) (by kernel_rfl) (by decide) (by kernel_rfl) hS (fun K hK => ?_)
                  simp only [Mix.pick]
                  repeat (go_big_quiet_step (fail))
                  refine wpQuiet_nil (hK _ ?_)
                  clear hK K
                  refine MixH.take 10 8 _ (.int .i64 x) rfl (by kernel_rfl) (by kernel_rfl) (by kernel_rfl) (by kernel_rfl) (yields_int (.tmp 60) rfl ⟨qg, p, none⟩ (.int .i64 x) rfl rfl (fun A hA => hA.2.1)) hS (fun a' ha => ?_)
                  simp only [Act.put, List.setIfInBounds_toArray, List.set_cons_succ, List.set_cons_zero] at ha
                  subst ha
                  refine MixH.takes [false, false, false, false, false, false, false, false, false, true, true] 8 (by kernel_rfl) (by kernel_rfl) (by decide) (by kernel_rfl) hS (fun K hK => ?_)
                  simp only [Mix.pick]
                  repeat (go_big_quiet_step (fail))
                  refine wpQuiet_nil (hK _ ?_)
                  clear hK K
                  refine MixH.takes [false, false, false, false, false, false, false, false, false, false, false, true] 7 (by kernel_rfl) (by kernel_rfl) (by decide) (by kernel_rfl) hS (fun K hK => ?_)
                  simp only [Mix.pick]
                  repeat (go_big_quiet_step (fail))
                  refine wpQuiet_nil (hK _ ?_)
                  clear hK K
                  refine MixH.takes [false, false, false, false, false, false, false, false, false, false, false, false, true] 6 (by kernel_rfl) (by kernel_rfl) (by decide) (by kernel_rfl) hS (fun K hK => ?_)
                  simp only [Mix.pick]
                  repeat (go_big_quiet_step (fail))
                  refine wpQuiet_nil (hK _ ?_)
                  clear hK K
                  refine MixH.take 5 13 _ (.slice (some ⟨qi, 0, none⟩) ln lc2) rfl (by kernel_rfl) (by kernel_rfl) (by kernel_rfl) (by kernel_rfl) (yields_ints (.tmp 65) rfl ⟨g, i * 21 + 18, none⟩ (.slice (some ⟨qi, 0, none⟩) ln lc2) rfl rfl (fun A hA => hA.1)) hS (fun a' ha => ?_)
                  simp only [Act.put, List.setIfInBounds_toArray, List.set_cons_succ, List.set_cons_zero] at ha
                  subst ha
                  refine MixH.takes [false, false, false, false, false, false, false, false, false, false, false, false, false, false, true] 4 (by kernel_rfl) (by kernel_rfl) (by decide) (by kernel_rfl) hS (fun K hK => ?_)
                  simp only [Mix.pick]
                  repeat (go_big_quiet_step (fail))
                  refine wpQuiet_nil (hK _ ?_)
                  clear hK K
                  refine MixH.takes [false, false, false, false, false, false, false, false, false, false, false, false, false, false, false, true] 3 (by kernel_rfl) (by kernel_rfl) (by decide) (by kernel_rfl) hS (fun K hK => ?_)
                  simp only [Mix.pick]
                  repeat (go_big_quiet_step (fail))
                  refine wpQuiet_nil (hK _ ?_)
                  clear hK K
                  refine MixH.take 2 16 _ (.int .i64 x) rfl (by kernel_rfl) (by kernel_rfl) (by kernel_rfl) (by kernel_rfl) (yields_int (.tmp 68) rfl ⟨qi, j, none⟩ (.int .i64 x) rfl rfl (fun A hA => hA.2.2)) hS (fun a' ha => ?_)
                  simp only [Act.put, List.setIfInBounds_toArray, List.set_cons_succ, List.set_cons_zero] at ha
                  subst ha
                  refine MixH.takes [false, false, false, false, false, false, false, false, false, false, false, false, false, false, false, false, false, true] 1 (by kernel_rfl) (by kernel_rfl) (by decide) (by kernel_rfl) hS (fun K hK => ?_)
                  simp only [Mix.pick]
                  repeat (go_big_quiet_step (fail))
                  refine wpQuiet_nil (hK _ ?_)
                  clear hK K
                  refine MixH.takes [false, false, false, false, false, false, false, false, false, false, false, false, false, false, false, false, false, false, true] 0 (by kernel_rfl) (by kernel_rfl) (by decide) (by kernel_rfl) hS (fun K hK => ?_)
                  simp only [Mix.pick]
                  repeat (go_big_quiet_step (fail))
                  refine wpQuiet_nil (hK _ ?_)
                  clear hK K
                  refine MixH.done (by kernel_rfl) ?_
                  clear hS
                  go_wp2_with fail
                  go_roundw
                  case rel => exact ⟨j + 1, p + 1, by first | rfl | go_num, by first | rfl | go_num, by have := HJL.out; omega, by have := HP.out; show _ = _; omega, HZ⟩
                  case measure => have := HJL.out; simp [intOf]; omega
                · have hnj : ¬ ((j : Int) < (ln : Int)) := by omega
                  have f18 : wr.frozen? ⟨g, i * 21 + 18, none⟩ = false := by have h9 := HJ.out; rw [HV.out.1] at h9; exact h9.fz _
                  have HME : Hid (p = (gpre E L (i + 1)).length ∧ LO w t M d E gb gv G (uptI f L (i + 1)) v (wr.setCell ⟨g, i * 21 + 18, none⟩ (.slice none 0 0))) := by
                    refine ⟨by rw [gpre_on HBI.out.1 HIG.out, List.length_append, ← HM.out, ← HLN.out.2, HP.out]; omega, ?_⟩
                    have h9 := HJ.out
                    rw [HV.out.1] at h9 ⊢
                    have h8 := h9.clear (by rw [uptI_len]; exact HN.out.1) (uptI_at f HBI.out.1)
                    have e2 : f r = irp r none 0 0 [] := by rw [HF.out]; unfold iB; rw [if_pos HIG.out]
                    rw [← e2, uptI_next f HBI.out.1] at h8
                    exact h8
                  clear HJ hj
                  go_wp2_with fail
                  go_meet
                  exact ⟨_, rfl, HME⟩
      case rest =>
        obtain ⟨m2, rfl, HR⟩ := hcut
        clear HX
        go_wp2_with fail
        go_roundw
        case rel => exact ⟨i + 1, m2, rfl, by first | rfl | go_num, by have := HLT.out; omega, HR.out.1, HR.out.2⟩
        case measure => have := HLT.out; simp [intOf]; omega
    · have hni : ¬ ((i : Int) < (n : Int)) := by omega
      have HMA : Hid (m = gn) := by show _ = _; rw [HM.out, HGN.out.1, HSI.out, gpre_all (by have := HN.out.1; omega)]
      have HE : Hid (IT w t M d E (L.map f) (.slice la n lc) wr) := by
        have h9 := HX.out.t
        rw [HV.out.1, uptI_all f (by have := HN.out.1; omega)] at h9
        exact h9
      obtain rfl := HMA.out
      have qe : (((m : Nat) : Int) == ((m : Nat) : Int)) = true := by simp
      clear HX
      go_wp2_with fail
      go_ret
      exact ⟨rfl, HE.out⟩
end Go.Proofs.Ytialefdojeddjaa
