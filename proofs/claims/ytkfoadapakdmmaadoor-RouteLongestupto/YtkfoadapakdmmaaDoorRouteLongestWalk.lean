/-
  RouteLongest: the walk.
-/
import Derived.Test.YtkfoadapakdmmaaDoorRtLp
namespace Go.Proofs.YtkfoadapakdmmaaDoor
open Go.RowKit Go.Maps

def i0 : IV := ⟨4, fun j => if j = 0 then 10 else if j = 1 then 1 else 0⟩
theorem r0_ok : ROk r0 := ⟨⟨(show (Lit.int .i64 4).wf = true by decide), (show (Lit.int .i64 8).wf = true by decide), fun j _ => by show (if j = 0 then 10 else 0) < 256; split <;> omega⟩, fun j _ => by show (0 : Nat) < 256; omega⟩
theorem r0_chk : chkR r0 = 0 := by decide +kernel
theorem i0_ok : IOk i0 := ⟨(show (Lit.int .i64 4).wf = true by decide), fun j _ => by
  show (if j = 0 then 10 else if j = 1 then 1 else 0) < 256
  split
  · omega
  · split <;> omega⟩
theorem listG_rangeI {w : World} {la : Option Addr} {rs : List IV} (h : ListG 17 ivC IOk w la rs) (k : Nat) (r : IV) (hr : rs[k]? = some r) : ∃ b off, la = some ⟨b, off, none⟩ ∧ b < w.heap.size ∧ w.rangeAt b (off + k * 17) (ipCells r.V r.x).toList := by
  obtain ⟨_, b, off, h1, h2, h3⟩ := h.at k r hr
  refine ⟨b, off, h1, h2, fun j u hj => ?_⟩
  have hj' : j < 17 := (List.getElem?_eq_some_iff.1 hj).1
  rw [h3 j hj']
  exact hj
theorem range_pfx {w : World} {b o : Nat} {r : RV} (h : w.rangeAt b o (rtC r).toList) : w.rangeAt b o (pfC r.p).toList := by
  intro j u hj
  have hj' : j < 18 := (List.getElem?_eq_some_iff.1 hj).1
  refine h j u ?_
  have : j = 0 ∨ j = 1 ∨ j = 2 ∨ j = 3 ∨ j = 4 ∨ j = 5 ∨ j = 6 ∨ j = 7 ∨ j = 8 ∨ j = 9 ∨ j = 10 ∨ j = 11 ∨ j = 12 ∨ j = 13 ∨ j = 14 ∨ j = 15 ∨ j = 16 ∨ j = 17 := by omega
  rcases this with rfl | rfl | rfl | rfl | rfl | rfl | rfl | rfl | rfl | rfl | rfl | rfl | rfl | rfl | rfl | rfl | rfl | rfl <;> exact hj
theorem range_n {w : World} {b o : Nat} {r : RV} (h : w.rangeAt b o (rtC r).toList) : w.cell? ⟨b, o + 17, none⟩ = some (.int .i64 r.p.n) := h 17 _ rfl
theorem TS.matches {w : World} {t M : Nat} {R : List RV} {A : World} (h : TS w t M R A) (V : Int) (x : Nat → Nat) (hv : (Lit.int .i64 V).wf = true) (hx : ∀ i, i < 16 → x i < 256) : Calls Tryd.prog 18 #[.pointer (some ⟨t, 0, none⟩), .agg (ipCells V x)] A fun e A' => ∃ v, e = .returned v ∧ RL A' A.heap.size v (mIP R V x) ∧ Below A.heap.size A A' := by
  obtain ⟨D, hD⟩ := h.tab
  exact matches_any t M D R V x A hD hv hx
theorem TS.lenz {w : World} {t M : Nat} {R : List RV} {A : World} (h : TS w t M R A) (n : Int) (hn : (R.length : Int) = n) : Calls Tryd.prog 12 #[.pointer (some ⟨t, 0, none⟩)] A fun e A' => e = .returned (.int .i64 n) ∧ A = A' := by
  subst hn
  exact h.len
theorem below_far {A B C : World} {b : Nat} (h : Below A.heap.size A B) (hg : B.grownBy C (some b)) (hb : A.heap.size ≤ b) : Below A.heap.size A C := h.trans ((Ch.ofGrown hg).below (fun q e => by have e' : some b = some q := e; simp at e'; omega) h.size)
theorem cnt_take (R : List RV) (p : RV → Bool) (k : Nat) (s : RV) (h : R[k]? = some s) : (R.take (k + 1)).countP p = (R.take k).countP p + if p s = true then 1 else 0 := by
  rw [List.take_add_one, h, Option.toList_some, List.countP_append, List.countP_singleton]
theorem any_take (R : List RV) (p : RV → Bool) (k : Nat) (s : RV) (h : R[k]? = some s) : (R.take (k + 1)).any p = ((R.take k).any p || p s) := by
  rw [List.take_add_one, h, Option.toList_some, List.any_append]
  simp
set_option maxHeartbeats 12800000 in
set_option maxRecDepth 100000 in
theorem routeLongest.walk (w : World) (hs : Spe8 w) (la : Option Addr) (ln lc : Nat) (rs : List RV) (hl : rs.length = ln) (hL : ListG 36 rcL ROk w la rs) (hlb : ln ≤ 1048576) (ia : Option Addr) (im ic : Nat) (is : List IV) (hi : is.length = im) (hI : ListG 17 ivC IOk w ia is) (hib : im ≤ 1048576) :
    Calls Tryd.prog 4 #[.slice la ln lc, .slice ia im ic] w fun e w' => e = .returned (.bool true) ∧ Below w.heap.size w w' := by
  subst hl hi
  have HS : Hid (Spe8 w) := hs
  have HL : Hid (ListG 36 rcL ROk w la rs) := hL
  have HI : Hid (ListG 17 ivC IOk w ia is) := hI
  have HLB : Hid (rs.length ≤ 1048576 ∧ is.length ≤ 1048576) := ⟨hlb, hib⟩
  obtain ⟨ln, hln⟩ : ∃ ln, ln = rs.length := ⟨_, rfl⟩
  obtain ⟨im, him⟩ : ∃ im, im = is.length := ⟨_, rfl⟩
  have HLN : Hid (rs.length = ln ∧ is.length = im) := ⟨hln.symm, him.symm⟩
  rw [← hln, ← him]
  clear hs hL hI hlb hib hln him
  go_enter Tryd.func4, Tryd.ntmps4
  go_wp2_with fail
  refine Calls.mono (route0_any w) ?_
  rintro e w1 ⟨rfl, b1⟩
  have HB1 : Hid (Below w.heap.size w w1) := b1
  clear b1
  have bz : Below w1.heap.size w1 (w1.alloc (.cells (rtC r0) 32)) := (Below.refl _ _).alloc (Nat.le_refl _) _
  have HB2 : Hid (Below w.heap.size w (w1.alloc (.cells (rtC r0) 32))) := bthen HB1.out bz
  clear bz
  obtain ⟨q0, hq0⟩ : ∃ q0, q0 = r0 := ⟨_, rfl⟩
  rw [← hq0] at HB2 ⊢
  have HQ0 : Hid (q0 = r0) := hq0
  clear hq0
  go_wp2_with (first | (refine wpList_bs1 (.tmp 16) rfl q0 rfl rfl ?_) | (refine wpList_appG (K := 36) (cells := rcL) rcL_len (fun o => rtC_one o) (by decide) rfl (.tmp 17) (.tmp 18) 39 32 rfl Tryd.underlying39 Tryd.infoR w1.heap.size (.slice (some ⟨w1.heap.size, 0, none⟩) 1 1) [q0] rfl (GL.new1 w1 32 36 (rtC q0) q0 rfl rfl) ROk la lc rs (by rw [HLN.out.1]; rfl) (HL.out.old HB2.out) (by simp) HLB.out.1 (by simp) ?_))
  intro v3 w3 hGL3 hg3 _
  have HB3 : Hid (Below w.heap.size w w3) := by
    have h1 : Below w1.heap.size w1 w3 := below_far ((Below.refl _ _).alloc (Nat.le_refl _) _) hg3 (Nat.le_refl _)
    exact bthen HB1.out h1
  obtain ⟨va, vc, hv3, hG3⟩ := hGL3.listG (ok := ROk) rcL_len (by
    intro o ho
    rcases List.mem_cons.1 ho with h | h
    · rw [h, HQ0.out]; exact r0_ok
    · obtain ⟨i, hi⟩ := List.mem_iff_getElem?.1 h
      exact (HL.out.at i o hi).1)
  subst hv3
  have QF : Hid _ := filled_any va _ vc ([q0] ++ rs) w3 (HS.out.old HB3.out) rfl hG3
  clear hGL3 hg3 hG3 HB2 HB1
  go_wp2_with fail
  refine Calls.mono QF.out ?_
  rintro e w4 ⟨t, M, vin, rfl, hFS⟩
  obtain ⟨RR, hRR⟩ : ∃ RR, RR = fillR (([q0] ++ rs).take 600) := ⟨_, rfl⟩
  rw [← hRR] at hFS
  have HROK : Hid ((∀ r ∈ RR, ROk r) ∧ (∀ r ∈ RR, vpE r.p = 0) ∧ RR.Pairwise (fun a b => eqP a.p b.p = false) ∧ RR ≠ [] ∧ RR.length ≤ 256) := by
    have hok := fillR_ok (([q0] ++ rs).take 600) (by
      intro o ho
      rcases List.mem_append.1 (List.mem_of_mem_take ho) with h | h
      · simp only [List.mem_singleton] at h; rw [h, HQ0.out]; exact r0_ok
      · obtain ⟨i, hi⟩ := List.mem_iff_getElem?.1 h
        exact (HL.out.at i o hi).1)
    rw [← hRR] at hok
    obtain ⟨D, hD⟩ := hFS.ts.tab
    refine ⟨fun r hr => (hok r hr).1, fun r hr => chk_vp (hok r hr).2, hD.dj, ?_, by rw [hRR]; exact fillR_len _⟩
    rw [hRR]
    exact fillR_ne q0 (rs.take 599) (by rw [HQ0.out]; exact r0_chk)
  obtain ⟨NR, hNR⟩ : ∃ NR, NR = RR.length := ⟨_, rfl⟩
  have HNR : Hid (RR.length = NR) := hNR.symm
  have hNR1 : 0 < NR := by
    have h := HROK.out.2.2.2.1
    rw [hNR]
    exact List.length_pos_iff.2 h
  have hNR2 : NR ≤ 256 := by rw [hNR]; exact HROK.out.2.2.2.2
  obtain ⟨na, nc, hvin⟩ := hFS.li.form
  rw [← hNR] at hvin
  subst hvin
  have hz1 : ((NR : Int) == 0) = false := by simp; omega
  have hz2 : ¬ (NR : Int) = 0 := by omega
  have HFS : Hid (FS w3 t M RR RR (.slice na NR nc) w4) := hFS
  have HB4 : Hid (Below w.heap.size w w4) := bthen HB3.out hFS.ts.bel
  clear QF hRR hFS hNR
  go_wp2_with fail
  refine Calls.mono (HFS.out.ts.lenz (NR : Int) (by rw [HNR.out])) ?_
  rintro e w5 ⟨rfl, rfl⟩
  have bz : Below w4.heap.size w4 (w4.alloc (.cells (ipCells i0.V i0.x) 28)) := (Below.refl _ _).alloc (Nat.le_refl _) _
  have HBz : Hid (Below w.heap.size w (w4.alloc (.cells (ipCells i0.V i0.x) 28))) := bthen HB4.out bz
  clear bz
  go_wp2_with (first | (refine wpList_bsi (.tmp 38) rfl i0.V i0.x rfl rfl ?_) | (refine wpList_appG (K := 17) (cells := ivC) ivC_len (fun o => ivC_one o) (by decide) rfl (.tmp 39) (.tmp 40) 40 28 rfl Tryd.underlying40 Tryd.infoI w4.heap.size (.slice (some ⟨w4.heap.size, 0, none⟩) 1 1) [i0] rfl (GL.new1 w4 28 17 (ipCells i0.V i0.x) i0 rfl rfl) IOk ia ic is (by rw [HLN.out.2]; rfl) (HI.out.old HBz.out) (by simp) HLB.out.2 (by simp) ?_))
  intro v6 Z hGL6 hg6 _
  have bZ : Below w4.heap.size w4 Z := below_far ((Below.refl _ _).alloc (Nat.le_refl _) _) hg6 (Nat.le_refl _)
  obtain ⟨pa, pc, hv6, hG6⟩ := hGL6.listG (ok := IOk) ivC_len (by
    intro o ho
    rcases List.mem_cons.1 ho with h | h
    · rw [h]; exact i0_ok
    · obtain ⟨i, hi⟩ := List.mem_iff_getElem?.1 h
      exact (HI.out.at i o hi).1)
  subst hv6
  obtain ⟨ips, hips⟩ : ∃ ips, ips = i0 :: is := ⟨_, rfl⟩
  obtain ⟨NI, hNI⟩ : ∃ NI, NI = is.length + 1 := ⟨_, rfl⟩
  rw [← hips] at hG6
  (try simp only [List.length_cons])
  rw [← hNI]
  have HNI : Hid (ips.length = NI ∧ NI ≤ 2000000) := ⟨by rw [hNI, hips]; rfl, by rw [hNI]; have := HLB.out.2; omega⟩
  have HZ : Hid (FS w3 t M RR RR (.slice na NR nc) Z ∧ ListG 17 ivC IOk Z pa ips ∧ Below w.heap.size w Z) := ⟨HFS.out.below bZ, hG6, bthen HB4.out bZ⟩
  have HGN : Hid (ListG 36 rcL ROk Z na RR) := by
    obtain ⟨va', vc', e1, e2⟩ := GL.listG (K := 36) (cells := rcL) (ok := ROk) (HZ.out.1.li) rcL_len HROK.out.1
    rw [HNR.out] at e1
    simp only [Value.slice.injEq, true_and] at e1
    rw [e1.1]
    exact e2
  clear hGL6 hg6 bZ hG6 hips hNI HBz HFS HB4 HB3 HI HL HLB HLN HS
  go_wp2_with fail
  go_loopw [7] (fun ix wr => ∃ i : Nat, ix = .int .i64 i ∧ i ≤ NI ∧ i ≤ 60 ∧ Hid (Below Z.heap.size Z wr)) (fun ix _ => 60 - (intOf ix).toNat)
  case atStart => exact ⟨0, rfl, Nat.zero_le _, by omega, Below.refl _ _⟩
  case round =>
    obtain ⟨i, rfl, hiN, hi60, HW⟩ := hrel
    by_cases hlt : i < NI
    · have q0 : (0 : Int) ≤ (i : Int) := by omega
      have q1 : (i : Int) < (NI : Int) := by omega
      have q2 : ((i : Int)).toNat = i := by omega
      by_cases h60 : i < 60
      · have q6 : (i : Int) < 60 := by omega
        obtain ⟨p, hp⟩ : ∃ p, ips[i]? = some p := ⟨_, List.getElem?_eq_getElem (by rw [HNI.out.1]; exact hlt)⟩
        obtain ⟨pb, po, rfl, hpb, hprg⟩ := listG_rangeI HZ.out.2.1 i p hp
        obtain ⟨V, x⟩ := p
        have HPK : Hid (IOk ⟨V, x⟩) := (HZ.out.2.1.at i _ hp).1
        have FI : Hid (∀ A, Below Z.heap.size Z A → A.rangeAt pb (po + i * 17) (ipCells V x).toList) := fun A hA => range_old hprg hA hpb
        have wi : IntKind.i64.wrap ((i : Int) + 1) = (i : Int) + 1 := by rw [IntKind.wrap_i64]; omega
        have HIK : Hid (i < NI ∧ i < 60) := ⟨hlt, h60⟩
        obtain ⟨rr, hrr⟩ : ∃ rr, rr = (fIP RR V x).getD rz := ⟨_, rfl⟩
        obtain ⟨si, hsi⟩ : ∃ si, si = (fIP RR V x).isSome := ⟨_, rfl⟩
        have HFI : Hid ((fIP RR V x).getD rz = rr ∧ (fIP RR V x).isSome = si) := ⟨hrr.symm, hsi.symm⟩
        have QF : Hid (Calls Tryd.prog 14 #[.pointer (some ⟨t, 0, none⟩), .agg (ipCells V x)] wr fun e A' => e = .returned (.tuple #[.agg (rtC rr), .bool si]) ∧ Below wr.heap.size wr A') := by
          rw [hrr, hsi]
          exact (HZ.out.1.ts.below HW.out).find V x HPK.out.1 HPK.out.2
        clear hp hpb hprg hiN hi60 hrr hsi
        go_wp2_with (first | (refine wpList_mid_ipr (.tmp 56) rfl pb (po + i * 17) V x rfl (FI.out _ HW.out) rfl ?_))
        refine Calls.mono QF.out ?_
        rintro e x1 ⟨rfl, c1⟩
        have HX1 : Hid (Below Z.heap.size Z x1) := bthen HW.out c1
        clear c1 QF HW
        go_wp2_with (first | (refine wpList_alloc_rte rfl rfl ?_) | (refine wpList_store_rte (.tmp 8) (.tmp 59) rfl rfl x1.heap.size rz rr rfl rfl (rte_new x1 rz) rfl ?_))
        intro x2 hR2 k2
        have bz : Below x1.heap.size x1 (x1.alloc (.cells (rtC rz) 32)) := (Below.refl _ _).alloc (Nat.le_refl _) _
        have b2 : Below x1.heap.size x1 x2 := bz.trans (k2.below (fun q e => by have e' : q = x1.heap.size := e; omega) bz.size)
        obtain ⟨O8, hO8⟩ : ∃ O8, O8 = x1.heap.size := ⟨_, rfl⟩
        rw [← hO8] at hR2 ⊢
        have HX2 : Hid (Below Z.heap.size Z x2 ∧ RteAt x2 O8 rr) := ⟨bthen HX1.out b2, hR2⟩
        clear hR2 k2 bz b2 hO8 HX1
        obtain ⟨pc, hpc⟩ : ∃ pc : RV → Bool, pc = fun s => conB s.p V x := ⟨_, rfl⟩
        obtain ⟨pf, hpf⟩ : ∃ pf : RV → Bool, pf = fun s => conB s.p V x && eqR s rr := ⟨_, rfl⟩
        have HPC : Hid ((∀ s, pc s = conB s.p V x) ∧ (∀ s, pf s = (conB s.p V x && eqR s rr)) ∧ RR.countP pc = (mIP RR V x).length ∧ RR.any pf = si) := by
          refine ⟨fun s => by rw [hpc], fun s => by rw [hpf], ?_, ?_⟩
          · rw [hpc]; exact (mIP_len HROK.out.2.1 HROK.out.2.2.1).symm
          · rw [hpf, ← HFI.out.1, ← HFI.out.2]; exact lo_found HROK.out.2.1 HROK.out.2.2.1
        clear hpc hpf
        go_wp2_with fail
        go_loopw [10, 11, 12] (fun nn ff kk wr => ∃ k : Nat, kk = .int .i64 k ∧ k ≤ NR ∧ nn = .int .i64 ((RR.take k).countP pc : Nat) ∧ ff = .bool ((RR.take k).any pf) ∧ Hid (Below x2.heap.size x2 wr)) (fun _ _ kk _ => NR - (intOf kk).toNat)
        case atStart => exact ⟨0, rfl, Nat.zero_le _, rfl, rfl, Below.refl _ _⟩
        case round =>
          obtain ⟨k, rfl, hkN, rfl, rfl, HK⟩ := hrel
          by_cases hkl : k < NR
          · have k0 : (0 : Int) ≤ (k : Int) := by omega
            have k1 : (k : Int) < (NR : Int) := by omega
            have k2 : ((k : Int)).toNat = k := by omega
            obtain ⟨s, hsk⟩ : ∃ s, RR[k]? = some s := ⟨_, List.getElem?_eq_getElem (by rw [HNR.out]; exact hkl)⟩
            obtain ⟨gb, go, rfl, hgb, hgr⟩ := listG_range HGN.out k s hsk
            have FG : Hid (∀ A, Below x2.heap.size x2 A → A.rangeAt gb (go + k * 36) (rtC s).toList) := fun A hA => range_old hgr (bthen HX2.out.1 hA) hgb
            have FP' : Hid (∀ A, Below x2.heap.size x2 A → A.rangeAt pb (po + i * 17) (ipCells V x).toList) := fun A hA => FI.out A (bthen HX2.out.1 hA)
            have wk : IntKind.i64.wrap ((k : Int) + 1) = (k : Int) + 1 := by rw [IntKind.wrap_i64]; omega
            have HSK : Hid (RR[k]? = some s ∧ s ∈ RR ∧ k < NR) := ⟨hsk, List.mem_of_getElem? hsk, hkl⟩
            obtain ⟨cb, hcb⟩ : ∃ cb, cb = conB s.p V x := ⟨_, rfl⟩
            have QC : Hid (∀ A, Calls Tryd.prog 17 #[.agg (pfC s.p), .agg (ipCells V x)] A fun e w' => e = .returned (.bool cb) ∧ Below A.heap.size A w') := fun A => by
              rw [hcb]
              exact contains_any s.p V x A (HROK.out.1 s HSK.out.2.1).1.x HPK.out.2
            have HCB : Hid (conB s.p V x = cb) := hcb.symm
            obtain ⟨cn, hcn⟩ : ∃ cn, cn = (RR.take k).countP pc := ⟨_, rfl⟩
            obtain ⟨fo, hfo⟩ : ∃ fo, fo = (RR.take k).any pf := ⟨_, rfl⟩
            have HCN : Hid ((RR.take k).countP pc = cn ∧ (RR.take k).any pf = fo ∧ cn ≤ 256) := ⟨hcn.symm, hfo.symm, by rw [hcn]; exact Nat.le_trans List.countP_le_length (by rw [List.length_take, HNR.out]; omega)⟩
            have hcn2 : cn ≤ 256 := HCN.out.2.2
            rw [← hcn, ← hfo]
            clear hsk hgb hgr hcb hcn hfo hkN hkl
            go_wp2_with fail
            refine MixH.start (fun A => Below x2.heap.size x2 A) (by kernel_rfl) ?_
            obtain ⟨wA, hwA⟩ : ∃ wA, wA = wr.drew := ⟨_, rfl⟩
            have hS : Below x2.heap.size x2 wA := by rw [hwA]; exact bthen HK.out (Below.refl _ _).drew
            rw [← hwA]
            clear hwA
            refine MixH.takes [true, true, true, true, false, true, true, true] 4 (by kernel_rfl) (by kernel_rfl) (by decide) (by kernel_rfl) hS (fun K hK => ?_)
            simp only [Mix.pick]
            repeat (go_big_quiet_step (fail))
            refine wpQuiet_nil (hK _ ?_)
            clear hK K
            refine MixH.take 3 4 _ (.agg (pfC s.p)) rfl (by kernel_rfl) (by kernel_rfl) (by kernel_rfl) (by kernel_rfl) (yields_pfx (.tmp 70) rfl gb (go + k * 36) s.p rfl rfl (fun A hA => range_pfx (FG.out A hA))) hS (fun a' ha => ?_)
            simp only [Act.put, List.setIfInBounds_toArray, List.set_cons_succ, List.set_cons_zero] at ha
            subst ha
            refine MixH.take 2 8 _ (.agg (ipCells V x)) rfl (by kernel_rfl) (by kernel_rfl) (by kernel_rfl) (by kernel_rfl) (yields_ipr (.tmp 74) rfl pb (po + i * 17) V x rfl rfl (fun A hA => FP'.out A hA)) hS (fun a' ha => ?_)
            simp only [Act.put, List.setIfInBounds_toArray, List.set_cons_succ, List.set_cons_zero] at ha
            subst ha
            refine MixH.one [false, false, false, false, false, false, false, false, false, true] 1 9 _ rfl rfl (by kernel_rfl) (by kernel_rfl) (fun K hK => ?_)
            simp only [Mix.pick]
            go_wp2_with fail
            refine Calls.mono (QC.out wA) ?_
            rintro e wB ⟨rfl, bB⟩
            replace hS : Below x2.heap.size x2 wB := bthen hS bB
            clear bB
            go_wp2_with fail
            refine ⟨rfl, hK _ _ hS ?_⟩
            clear hK K
            refine MixH.takes [false, false, false, false, false, false, false, false, false, false, true] 0 (by kernel_rfl) (by kernel_rfl) (by decide) (by kernel_rfl) hS (fun K hK => ?_)
            simp only [Mix.pick]
            repeat (go_big_quiet_step (fail))
            refine wpQuiet_nil (hK _ ?_)
            clear hK K
            refine MixH.done (by kernel_rfl) ?_
            have HA : Hid (Below x2.heap.size x2 wB) := hS
            clear hS
            cases cb with
            | false =>
              have HE : Hid ((RR.take (k + 1)).countP pc = cn ∧ (RR.take (k + 1)).any pf = fo) := by
                refine ⟨?_, ?_⟩
                · rw [cnt_take RR pc k s HSK.out.1, HCN.out.1, HPC.out.1, HCB.out]; rfl
                · rw [any_take RR pf k s HSK.out.1, HCN.out.2.1, HPC.out.2.1, HCB.out]; simp
              go_wp2_with fail
              go_roundw
              case rel => exact ⟨k + 1, by simp, by have := HSK.out.2.2; omega, by rw [HE.out.1], by rw [HE.out.2], HA⟩
              case measure => have := HSK.out.2.2; simp [intOf]; omega
            | true =>
              have HIT := lo_hit HROK.out.2.1 HROK.out.2.2.1 HSK.out.2.1 HCB.out
              rw [HFI.out.1, HFI.out.2] at HIT
              have HSI : Hid (si = true) := HIT.1
              have hle : ¬ (s.p.n > rr.p.n) := by have := HIT.2; omega
              have hle' : ¬ (rr.p.n < s.p.n) := by have := HIT.2; omega
              have hle2 : decide (s.p.n > rr.p.n) = false := by simpa using hle
              have hle3 : decide (rr.p.n < s.p.n) = false := by simpa using hle'
              have wn : IntKind.i64.wrap ((cn : Int) + 1) = ((cn + 1 : Nat) : Int) := by rw [IntKind.wrap_i64]; omega
              obtain ⟨er, her⟩ : ∃ er, er = eqR s rr := ⟨_, rfl⟩
              have HER : Hid (eqR s rr = er) := her.symm
              have HE : Hid ((RR.take (k + 1)).countP pc = cn + 1 ∧ (RR.take (k + 1)).any pf = (fo || er)) := by
                refine ⟨?_, ?_⟩
                · rw [cnt_take RR pc k s HSK.out.1, HCN.out.1, HPC.out.1, HCB.out]; rfl
                · rw [any_take RR pf k s HSK.out.1, HCN.out.2.1, HPC.out.2.1, HCB.out, HER.out]; simp
              have FO8 : Hid (∀ A, Below x2.heap.size x2 A → RteAt A O8 rr) := fun A hA => RteAt.below HX2.out.2 hA
              clear HIT her
              go_upto_region 16 with fail
              go_cut [11] (fun ff wx => ff = .bool (fo || er) ∧ Hid (Below x2.heap.size x2 wx))
              case first =>
                cases fo with
                | true =>
                  refine MixH.start (fun A => Below x2.heap.size x2 A) (by kernel_rfl) ?_
                  obtain ⟨wA, hwA⟩ : ∃ wA, wA = wB.drew := ⟨_, rfl⟩
                  have hS : Below x2.heap.size x2 wA := by rw [hwA]; exact bthen HA.out (Below.refl _ _).drew
                  rw [← hwA]
                  clear hwA
                  refine MixH.takes [true, true] 8 (by kernel_rfl) (by kernel_rfl) (by decide) (by kernel_rfl) hS (fun K hK => ?_)
                  simp only [Mix.pick]
                  repeat (go_big_quiet_step (fail))
                  refine wpQuiet_nil (hK _ ?_)
                  clear hK K
                  refine MixH.take 7 2 _ (undef) rfl (by kernel_rfl) (by kernel_rfl) (by kernel_rfl) (by kernel_rfl) (.inr ⟨rfl, rfl⟩) hS (fun a' ha => ?_)
                  simp only [Act.put, List.setIfInBounds_toArray, List.set_cons_succ, List.set_cons_zero] at ha
                  subst ha
                  refine MixH.take 6 3 _ (undef) rfl (by kernel_rfl) (by kernel_rfl) (by kernel_rfl) (by kernel_rfl) (.inr ⟨rfl, rfl⟩) hS (fun a' ha => ?_)
                  simp only [Act.put, List.setIfInBounds_toArray, List.set_cons_succ, List.set_cons_zero] at ha
                  subst ha
                  refine MixH.take 5 4 _ (undef) rfl (by kernel_rfl) (by kernel_rfl) (by kernel_rfl) (by kernel_rfl) (.inr ⟨rfl, rfl⟩) hS (fun a' ha => ?_)
                  simp only [Act.put, List.setIfInBounds_toArray, List.set_cons_succ, List.set_cons_zero] at ha
                  subst ha
                  refine MixH.take 4 5 _ (undef) rfl (by kernel_rfl) (by kernel_rfl) (by kernel_rfl) (by kernel_rfl) (.inr ⟨rfl, rfl⟩) hS (fun a' ha => ?_)
                  simp only [Act.put, List.setIfInBounds_toArray, List.set_cons_succ, List.set_cons_zero] at ha
                  subst ha
                  refine MixH.take 3 6 _ (undef) rfl (by kernel_rfl) (by kernel_rfl) (by kernel_rfl) (by kernel_rfl) (.inr ⟨rfl, rfl⟩) hS (fun a' ha => ?_)
                  simp only [Act.put, List.setIfInBounds_toArray, List.set_cons_succ, List.set_cons_zero] at ha
                  subst ha
                  refine MixH.take 2 7 _ (undef) rfl (by kernel_rfl) (by kernel_rfl) (by kernel_rfl) (by kernel_rfl) (.inr ⟨rfl, rfl⟩) hS (fun a' ha => ?_)
                  simp only [Act.put, List.setIfInBounds_toArray, List.set_cons_succ, List.set_cons_zero] at ha
                  subst ha
                  refine MixH.takes [false, false, false, false, false, false, false, false, true, true] 0 (by kernel_rfl) (by kernel_rfl) (by decide) (by kernel_rfl) hS (fun K hK => ?_)
                  simp only [Mix.pick]
                  repeat (go_big_quiet_step (fail))
                  refine wpQuiet_nil (hK _ ?_)
                  clear hK K
                  refine MixH.done (by kernel_rfl) ?_
                  have HA1 : Hid (Below x2.heap.size x2 wA) := hS
                  clear hS
                  go_wp2_with fail
                  go_meet
                  exact ⟨rfl, HA1⟩
                | false =>
                  refine MixH.start (fun A => Below x2.heap.size x2 A) (by kernel_rfl) ?_
                  obtain ⟨wA, hwA⟩ : ∃ wA, wA = wB.drew := ⟨_, rfl⟩
                  have hS : Below x2.heap.size x2 wA := by rw [hwA]; exact bthen HA.out (Below.refl _ _).drew
                  rw [← hwA]
                  clear hwA
                  refine MixH.takes [true, true] 8 (by kernel_rfl) (by kernel_rfl) (by decide) (by kernel_rfl) hS (fun K hK => ?_)
                  simp only [Mix.pick]
                  repeat (go_big_quiet_step (fail))
                  refine wpQuiet_nil (hK _ ?_)
                  clear hK K
                  refine MixH.takes [false, false, true, true, true] 5 (by kernel_rfl) (by kernel_rfl) (by decide) (by kernel_rfl) hS (fun K hK => ?_)
                  simp only [Mix.pick]
                  repeat (go_big_quiet_step (fail))
                  refine wpQuiet_nil (hK _ ?_)
                  clear hK K
                  refine MixH.take 4 5 _ (.agg (rtC s)) rfl (by kernel_rfl) (by kernel_rfl) (by kernel_rfl) (by kernel_rfl) (yields_rte (.tmp 84) rfl gb (go + k * 36) s rfl rfl (fun A hA => FG.out A hA)) hS (fun a' ha => ?_)
                  simp only [Act.put, List.setIfInBounds_toArray, List.set_cons_succ, List.set_cons_zero] at ha
                  subst ha
                  refine MixH.take 3 6 _ (.agg (rtC rr)) rfl (by kernel_rfl) (by kernel_rfl) (by kernel_rfl) (by kernel_rfl) (yields_rte (.tmp 8) rfl O8 0 rr rfl rfl (fun A hA => (FO8.out A hA).all)) hS (fun a' ha => ?_)
                  simp only [Act.put, List.setIfInBounds_toArray, List.set_cons_succ, List.set_cons_zero] at ha
                  subst ha
                  refine MixH.one [false, false, false, false, false, false, false, true] 2 7 _ rfl rfl (by kernel_rfl) (by kernel_rfl) (fun K hK => ?_)
                  simp only [Mix.pick]
                  refine wpList_eql_rt (.tmp 85) (.tmp 86) rfl s rr rfl rfl er HER.out rfl ?_
                  go_wp2_with fail
                  refine ⟨rfl, hK _ _ hS ?_⟩
                  clear hK K
                  refine MixH.takes [false, false, false, false, false, false, false, false, true, true] 0 (by kernel_rfl) (by kernel_rfl) (by decide) (by kernel_rfl) hS (fun K hK => ?_)
                  simp only [Mix.pick]
                  repeat (go_big_quiet_step (fail))
                  refine wpQuiet_nil (hK _ ?_)
                  clear hK K
                  refine MixH.done (by kernel_rfl) ?_
                  have HA1 : Hid (Below x2.heap.size x2 wA) := hS
                  clear hS
                  go_wp2_with fail
                  go_meet
                  exact ⟨rfl, HA1⟩
              case rest =>
                obtain ⟨rfl, HC⟩ := hcut
                have hsi := HSI.out
                subst hsi
                go_wp2_with fail
                refine MixH.start (fun A => Below x2.heap.size x2 A) (by kernel_rfl) ?_
                obtain ⟨wA, hwA⟩ : ∃ wA, wA = wc.drew := ⟨_, rfl⟩
                have hS : Below x2.heap.size x2 wA := by rw [hwA]; exact bthen HC.out (Below.refl _ _).drew
                rw [← hwA]
                clear hwA
                refine MixH.takes [true, true, true, true, true, true, true, true, false, true, true] 4 (by kernel_rfl) (by kernel_rfl) (by decide) (by kernel_rfl) hS (fun K hK => ?_)
                simp only [Mix.pick]
                repeat (go_big_quiet_step (fail))
                refine wpQuiet_nil (hK _ ?_)
                clear hK K
                refine MixH.take 3 8 _ (.int .i64 s.p.n) rfl (by kernel_rfl) (by kernel_rfl) (by kernel_rfl) (by kernel_rfl) (yields_int (.tmp 96) rfl ⟨gb, go + k * 36 + 17, none⟩ (.int .i64 s.p.n) rfl rfl (fun A hA => range_n (FG.out A hA))) hS (fun a' ha => ?_)
                simp only [Act.put, List.setIfInBounds_toArray, List.set_cons_succ, List.set_cons_zero] at ha
                subst ha
                refine MixH.take 2 11 _ (.int .i64 rr.p.n) rfl (by kernel_rfl) (by kernel_rfl) (by kernel_rfl) (by kernel_rfl) (yields_int (.tmp 99) rfl ⟨O8, 17, none⟩ (.int .i64 rr.p.n) rfl rfl (fun A hA => (FO8.out A hA).cn)) hS (fun a' ha => ?_)
                simp only [Act.put, List.setIfInBounds_toArray, List.set_cons_succ, List.set_cons_zero] at ha
                subst ha
                refine MixH.takes [false, false, false, false, false, false, false, false, false, false, false, false, true, true] 0 (by kernel_rfl) (by kernel_rfl) (by decide) (by kernel_rfl) hS (fun K hK => ?_)
                simp only [Mix.pick]
                repeat (go_big_quiet_step (fail))
                refine wpQuiet_nil (hK _ ?_)
                clear hK K
                refine MixH.done (by kernel_rfl) ?_
                have HA2 : Hid (Below x2.heap.size x2 wA) := hS
                clear hS
                go_wp2_with fail
                go_roundw
                case rel => exact ⟨k + 1, by simp, by have := HSK.out.2.2; omega, by rw [HE.out.1]; rfl, by rw [HE.out.2], HA2⟩
                case measure => have := HSK.out.2.2; simp [intOf]; omega
          · have k1 : ¬ (k : Int) < (NR : Int) := by omega
            have hkk : k = NR := by omega
            obtain ⟨ML, hML⟩ : ∃ ML, ML = mIP RR V x := ⟨_, rfl⟩
            obtain ⟨NM, hNM⟩ : ∃ NM, NM = ML.length := ⟨_, rfl⟩
            have HML : Hid (mIP RR V x = ML ∧ ML.length = NM) := ⟨hML.symm, hNM.symm⟩
            have e1 : (RR.take k).countP pc = NM := by rw [hkk, ← HNR.out, List.take_length, HPC.out.2.2.1, HML.out.1, HML.out.2]
            have e2 : (RR.take k).any pf = si := by rw [hkk, ← HNR.out, List.take_length, HPC.out.2.2.2]
            rw [e1, e2]
            have QM : Hid (Calls Tryd.prog 18 #[.pointer (some ⟨t, 0, none⟩), .agg (ipCells V x)] wr fun e A' => ∃ v, e = .returned v ∧ RL A' wr.heap.size v ML ∧ Below wr.heap.size wr A') := by
              rw [hML]
              exact (HZ.out.1.ts.below (bthen HX2.out.1 HK.out)).matches V x HPK.out.1 HPK.out.2
            have FPr := FI.out wr (bthen HX2.out.1 HK.out)
            have HFPr : Hid (wr.rangeAt pb (po + i * 17) (ipCells V x).toList) := FPr
            have hNM2 : NM ≤ 256 := by rw [← e1]; exact Nat.le_trans List.countP_le_length (by rw [List.length_take, HNR.out]; omega)
            clear e1 e2 hML hNM hkk hkl FPr hkN
            go_wp2_with (first | (refine wpList_mid_ipr (.tmp 106) rfl pb (po + i * 17) V x rfl HFPr.out rfl ?_))
            refine Calls.mono QM.out ?_
            rintro e x3 ⟨vm, rfl, hRM, c3⟩
            obtain ⟨ma, mc, hvm⟩ := hRM.form
            rw [HML.out.2] at hvm
            subst hvm
            have HX3 : Hid (Below x2.heap.size x2 x3) := bthen HK.out c3
            have HGM : Hid (ListG 36 rcL (fun _ => True) x3 ma ML) := by
              obtain ⟨va', vc', e1, e2⟩ := GL.listG (K := 36) (cells := rcL) (ok := fun _ => True) hRM rcL_len (fun _ _ => trivial)
              rw [HML.out.2] at e1
              simp only [Value.slice.injEq, true_and] at e1
              rw [e1.1]
              exact e2
            have FO8 : Hid (∀ A, Below x3.heap.size x3 A → RteAt A O8 rr) := fun A hA => RteAt.below HX2.out.2 (bthen HX3.out hA)
            have HSI : Hid (si = decide (0 < NM) ∧ (si = false → rr = rz)) := by
              show si = decide (0 < NM) ∧ (si = false → rr = rz)
              have h1 := HFI.out
              rw [fIP_head, HML.out.1] at h1
              cases hq : ML with
              | nil => rw [hq] at h1; have e3 := HML.out.2; rw [hq] at e3; simp at h1 e3; obtain ⟨h1a, h1b⟩ := h1; subst h1a h1b e3; exact ⟨by decide, fun _ => rfl⟩
              | cons y l => rw [hq] at h1; have e3 := HML.out.2; rw [hq] at e3; simp at h1 e3; obtain ⟨h1a, h1b⟩ := h1; subst h1a h1b; exact ⟨(decide_eq_true (by omega)).symm, fun e => by cases e⟩
            clear hRM c3 QM HK HFPr
            go_wp2_with fail
            go_cut [137] (fun bb wx => bb = .bool false ∧ Hid (Below x3.heap.size x3 wx))
            case first =>
              by_cases h0 : 0 < NM
              · have hsi : si = true := by rw [HSI.out.1]; simpa using h0
                subst hsi
                obtain ⟨m0, hm0⟩ : ∃ m0, ML[0]? = some m0 := ⟨_, List.getElem?_eq_getElem (by rw [HML.out.2]; exact h0)⟩
                obtain ⟨mb, mo, rfl, hmb, hmr⟩ : ∃ b off, ma = some ⟨b, off, none⟩ ∧ b < x3.heap.size ∧ x3.rangeAt b off (rtC m0).toList := by
                  obtain ⟨_, b, off, h1, h2, h3⟩ := HGM.out.at 0 m0 hm0
                  refine ⟨b, off, h1, h2, fun j u hj => ?_⟩
                  have hj' : j < 36 := (List.getElem?_eq_some_iff.1 hj).1
                  have := h3 j hj'
                  rw [Nat.zero_mul, Nat.add_zero] at this
                  rw [this]
                  exact hj
                have FM : Hid (∀ A, Below x3.heap.size x3 A → A.rangeAt mb mo (rtC m0).toList) := fun A hA => range_old hmr hA hmb
                have HEQ : Hid ((!(eqR m0 rr)) = false) := by
                  have e5 := lo_first (R := RR) (V := V) (x := x) (r := m0) (by rw [HML.out.1]; exact hm0)
                  rw [HFI.out.1] at e5
                  show (!(eqR m0 rr)) = false
                  rw [e5, eqR_refl]
                  rfl
                have n0 : (NM : Int) > 0 := by omega
                have n1 : (0 : Int) < (NM : Int) := by omega
                have n2 : (0 : Int) ≤ 0 := by omega
                have n3 : decide ((NM : Int) > 0) = true := by simpa using h0
                have n4 : decide (0 < NM) = true := by simpa using h0
                clear hm0 hmb hmr
                refine MixH.start (fun A => Below x3.heap.size x3 A) (by kernel_rfl) ?_
                obtain ⟨wA, hwA⟩ : ∃ wA, wA = x3.drew := ⟨_, rfl⟩
                have hS : Below x3.heap.size x3 wA := by rw [hwA]; exact bthen (Below.refl _ _) (Below.refl _ _).drew
                rw [← hwA]
                clear hwA
                refine MixH.takes [true, true, true, true, true, true, true] 22 (by kernel_rfl) (by kernel_rfl) (by decide) (by kernel_rfl) hS (fun K hK => ?_)
                simp only [Mix.pick]
                repeat (go_big_quiet_step (fail))
                refine wpQuiet_nil (hK _ ?_)
                clear hK K
                refine MixH.take 21 7 _ (undef) rfl (by kernel_rfl) (by kernel_rfl) (by kernel_rfl) (by kernel_rfl) (.inr ⟨rfl, rfl⟩) hS (fun a' ha => ?_)
                simp only [Act.put, List.setIfInBounds_toArray, List.set_cons_succ, List.set_cons_zero] at ha
                subst ha
                refine MixH.take 20 8 _ (undef) rfl (by kernel_rfl) (by kernel_rfl) (by kernel_rfl) (by kernel_rfl) (.inr ⟨rfl, rfl⟩) hS (fun a' ha => ?_)
                simp only [Act.put, List.setIfInBounds_toArray, List.set_cons_succ, List.set_cons_zero] at ha
                subst ha
                refine MixH.take 19 9 _ (undef) rfl (by kernel_rfl) (by kernel_rfl) (by kernel_rfl) (by kernel_rfl) (.inr ⟨rfl, rfl⟩) hS (fun a' ha => ?_)
                simp only [Act.put, List.setIfInBounds_toArray, List.set_cons_succ, List.set_cons_zero] at ha
                subst ha
                refine MixH.takes [false, false, false, false, false, false, false, false, false, false, true, true, true, true, true, true, true, true, true, true, true, true, true, true] 5 (by kernel_rfl) (by kernel_rfl) (by decide) (by kernel_rfl) hS (fun K hK => ?_)
                simp only [Mix.pick]
                repeat (go_big_quiet_step (fail))
                refine wpQuiet_nil (hK _ ?_)
                clear hK K
                refine MixH.take 4 24 _ (.agg (rtC m0)) rfl (by kernel_rfl) (by kernel_rfl) (by kernel_rfl) (by kernel_rfl) (yields_rte (.tmp 132) rfl mb mo m0 rfl rfl (fun A hA => FM.out A hA)) hS (fun a' ha => ?_)
                simp only [Act.put, List.setIfInBounds_toArray, List.set_cons_succ, List.set_cons_zero] at ha
                subst ha
                refine MixH.take 3 25 _ (.agg (rtC rr)) rfl (by kernel_rfl) (by kernel_rfl) (by kernel_rfl) (by kernel_rfl) (yields_rte (.tmp 8) rfl O8 0 rr rfl rfl (fun A hA => (FO8.out A hA).all)) hS (fun a' ha => ?_)
                simp only [Act.put, List.setIfInBounds_toArray, List.set_cons_succ, List.set_cons_zero] at ha
                subst ha
                refine MixH.one [false, false, false, false, false, false, false, false, false, false, false, false, false, false, false, false, false, false, false, false, false, false, false, false, false, false, true] 2 26 _ rfl rfl (by kernel_rfl) (by kernel_rfl) (fun K hK => ?_)
                simp only [Mix.pick]
                refine wpList_neq_rt (.tmp 133) (.tmp 134) rfl m0 rr rfl rfl false HEQ.out rfl ?_
                go_wp2_with fail
                refine ⟨rfl, hK _ _ hS ?_⟩
                clear hK K
                refine MixH.takes [false, false, false, false, false, false, false, false, false, false, false, false, false, false, false, false, false, false, false, false, false, false, false, false, false, false, false, true, true] 0 (by kernel_rfl) (by kernel_rfl) (by decide) (by kernel_rfl) hS (fun K hK => ?_)
                simp only [Mix.pick]
                repeat (go_big_quiet_step (fail))
                refine wpQuiet_nil (hK _ ?_)
                clear hK K
                refine MixH.done (by kernel_rfl) ?_
                have HA1 : Hid (Below x3.heap.size x3 wA) := hS
                clear hS
                go_wp2_with fail
                go_meet
                exact ⟨rfl, HA1⟩
              · have hsi : si = false := by rw [HSI.out.1]; simpa using h0
                have hrz : rr = rz := HSI.out.2 hsi
                subst hsi hrz
                have hn0 : NM = 0 := by omega
                subst hn0
                have HEQ : Hid ((!(eqR rz rz)) = false) := by show (!(eqR rz rz)) = false; rw [eqR_refl]; rfl
                clear h0
                refine MixH.start (fun A => Below x3.heap.size x3 A) (by kernel_rfl) ?_
                obtain ⟨wA, hwA⟩ : ∃ wA, wA = x3.drew := ⟨_, rfl⟩
                have hS : Below x3.heap.size x3 wA := by rw [hwA]; exact bthen (Below.refl _ _) (Below.refl _ _).drew
                rw [← hwA]
                clear hwA
                refine MixH.takes [true, true, true, true, true, true, true] 22 (by kernel_rfl) (by kernel_rfl) (by decide) (by kernel_rfl) hS (fun K hK => ?_)
                simp only [Mix.pick]
                repeat (go_big_quiet_step (fail))
                refine wpQuiet_nil (hK _ ?_)
                clear hK K
                refine MixH.take 21 7 _ (.agg (rtC rz)) rfl (by kernel_rfl) (by kernel_rfl) (by kernel_rfl) (by kernel_rfl) (yields_rte (.tmp 8) rfl O8 0 rz rfl rfl (fun A hA => (FO8.out A hA).all)) hS (fun a' ha => ?_)
                simp only [Act.put, List.setIfInBounds_toArray, List.set_cons_succ, List.set_cons_zero] at ha
                subst ha
                refine MixH.takes [false, false, false, false, false, false, false, false, true] 20 (by kernel_rfl) (by kernel_rfl) (by decide) (by kernel_rfl) hS (fun K hK => ?_)
                simp only [Mix.pick]
                repeat (go_big_quiet_step (fail))
                refine wpQuiet_nil (hK _ ?_)
                clear hK K
                refine MixH.one [false, false, false, false, false, false, false, false, false, true] 19 9 _ rfl rfl (by kernel_rfl) (by kernel_rfl) (fun K hK => ?_)
                simp only [Mix.pick]
                refine wpList_neq_rt (.tmp 116) (.tmp 117) rfl rz rz rfl rfl false HEQ.out rfl ?_
                go_wp2_with fail
                refine ⟨rfl, hK _ _ hS ?_⟩
                clear hK K
                refine MixH.takes [false, false, false, false, false, false, false, false, false, false, true, true, true, true, true, true, true, true, true, true, true, true] 7 (by kernel_rfl) (by kernel_rfl) (by decide) (by kernel_rfl) hS (fun K hK => ?_)
                simp only [Mix.pick]
                repeat (go_big_quiet_step (fail))
                refine wpQuiet_nil (hK _ ?_)
                clear hK K
                refine MixH.take 6 22 _ (undef) rfl (by kernel_rfl) (by kernel_rfl) (by kernel_rfl) (by kernel_rfl) (.inr ⟨rfl, rfl⟩) hS (fun a' ha => ?_)
                simp only [Act.put, List.setIfInBounds_toArray, List.set_cons_succ, List.set_cons_zero] at ha
                subst ha
                refine MixH.take 5 23 _ (undef) rfl (by kernel_rfl) (by kernel_rfl) (by kernel_rfl) (by kernel_rfl) (.inr ⟨rfl, rfl⟩) hS (fun a' ha => ?_)
                simp only [Act.put, List.setIfInBounds_toArray, List.set_cons_succ, List.set_cons_zero] at ha
                subst ha
                refine MixH.take 4 24 _ (undef) rfl (by kernel_rfl) (by kernel_rfl) (by kernel_rfl) (by kernel_rfl) (.inr ⟨rfl, rfl⟩) hS (fun a' ha => ?_)
                simp only [Act.put, List.setIfInBounds_toArray, List.set_cons_succ, List.set_cons_zero] at ha
                subst ha
                refine MixH.take 3 25 _ (undef) rfl (by kernel_rfl) (by kernel_rfl) (by kernel_rfl) (by kernel_rfl) (.inr ⟨rfl, rfl⟩) hS (fun a' ha => ?_)
                simp only [Act.put, List.setIfInBounds_toArray, List.set_cons_succ, List.set_cons_zero] at ha
                subst ha
                refine MixH.take 2 26 _ (undef) rfl (by kernel_rfl) (by kernel_rfl) (by kernel_rfl) (by kernel_rfl) (.inr ⟨rfl, rfl⟩) hS (fun a' ha => ?_)
                simp only [Act.put, List.setIfInBounds_toArray, List.set_cons_succ, List.set_cons_zero] at ha
                subst ha
                refine MixH.takes [false, false, false, false, false, false, false, false, false, false, false, false, false, false, false, false, false, false, false, false, false, false, false, false, false, false, false, true, true] 0 (by kernel_rfl) (by kernel_rfl) (by decide) (by kernel_rfl) hS (fun K hK => ?_)
                simp only [Mix.pick]
                repeat (go_big_quiet_step (fail))
                refine wpQuiet_nil (hK _ ?_)
                clear hK K
                refine MixH.done (by kernel_rfl) ?_
                have HA1 : Hid (Below x3.heap.size x3 wA) := hS
                clear hS
                go_wp2_with fail
                go_meet
                exact ⟨rfl, HA1⟩
            case rest =>
              obtain ⟨rfl, HY⟩ := hcut
              go_wp2_with fail
              go_loopw [14] (fun kk wr => ∃ j : Nat, kk = .int .i64 ((j + 1 : Nat) : Int) ∧ j ≤ NM ∧ Hid (Below x3.heap.size x3 wr)) (fun kk _ => NM + 1 - (intOf kk).toNat)
              case atStart => exact ⟨0, rfl, Nat.zero_le _, HY⟩
              case round =>
                obtain ⟨j, rfl, hj, HM⟩ := hrel
                by_cases hjl : j + 1 < NM
                · have j0 : (0 : Int) ≤ ((j + 1 : Nat) : Int) := by omega
                  have j1 : ((j + 1 : Nat) : Int) < (NM : Int) := by omega
                  have j2 : (((j + 1 : Nat) : Int)).toNat = j + 1 := by omega
                  have j3 : (0 : Int) ≤ (j : Int) := by omega
                  have j4 : (j : Int) < (NM : Int) := by omega
                  have j5 : ((j : Int)).toNat = j := by omega
                  have j6 : IntKind.i64.wrap (((j + 1 : Nat) : Int) - 1) = (j : Int) := by rw [IntKind.wrap_i64]; omega
                  have j7 : IntKind.i64.wrap (((j + 1 : Nat) : Int) + 1) = ((j + 1 + 1 : Nat) : Int) := by rw [IntKind.wrap_i64]; omega
                  obtain ⟨mA, hmA⟩ : ∃ m, ML[j]? = some m := ⟨_, List.getElem?_eq_getElem (by rw [HML.out.2]; omega)⟩
                  obtain ⟨mB, hmB⟩ : ∃ m, ML[j + 1]? = some m := ⟨_, List.getElem?_eq_getElem (by rw [HML.out.2]; omega)⟩
                  obtain ⟨_, mb, mo, hma, hmb, hcA⟩ := HGM.out.at j mA hmA
                  obtain ⟨_, mb', mo', hma', _, hcB⟩ := HGM.out.at (j + 1) mB hmB
                  rw [hma] at hma'
                  simp only [Option.some.injEq, Addr.mk.injEq, and_true] at hma'
                  obtain ⟨rfl, rfl⟩ := hma'
                  subst hma
                  have hrA : x3.rangeAt mb (mo + j * 36) (rtC mA).toList := fun q u hq => by rw [hcA q (List.getElem?_eq_some_iff.1 hq).1]; exact hq
                  have hrB : x3.rangeAt mb (mo + (j + 1) * 36) (rtC mB).toList := fun q u hq => by rw [hcB q (List.getElem?_eq_some_iff.1 hq).1]; exact hq
                  have FA : Hid (∀ A, Below x3.heap.size x3 A → A.rangeAt mb (mo + j * 36) (rtC mA).toList) := fun A hA => range_old hrA hA hmb
                  have FB : Hid (∀ A, Below x3.heap.size x3 A → A.rangeAt mb (mo + (j + 1) * 36) (rtC mB).toList) := fun A hA => range_old hrB hA hmb
                  have FP3 : Hid (∀ A, Below x3.heap.size x3 A → A.rangeAt pb (po + i * 17) (ipCells V x).toList) := fun A hA => FI.out A (bthen HX2.out.1 (bthen HX3.out hA))
                  have hst := lo_step (R := RR) (V := V) (x := x) (k := j) (a := mA) (b := mB) HROK.out.2.1 (by rw [HML.out.1]; exact hmA) (by rw [HML.out.1]; exact hmB)
                  have QC : Hid (∀ A, Calls Tryd.prog 17 #[.agg (pfC mB.p), .agg (ipCells V x)] A fun e w' => e = .returned (.bool true) ∧ Below A.heap.size A w') := fun A => by
                    have hmem := (mIP_con (R := RR) (V := V) (x := x) HROK.out.2.1 (by rw [HML.out.1]; exact List.mem_of_getElem? hmB)).1
                    have := contains_any mB.p V x A (HROK.out.1 mB hmem).1.x HPK.out.2
                    rw [hst.2] at this
                    exact this
                  have g1 : ¬ (mA.p.n ≤ mB.p.n) := by have := hst.1; omega
                  have g2 : decide (mB.p.n ≥ mA.p.n) = false := by simpa using g1
                  have HJ : Hid (j + 1 < NM) := hjl
                  clear hmA hmB hcA hcB hmb hrA hrB hst hjl hj
                  go_wp2_with fail
                  refine MixH.start (fun A => Below x3.heap.size x3 A) (by kernel_rfl) ?_
                  obtain ⟨wA, hwA⟩ : ∃ wA, wA = wr.drew := ⟨_, rfl⟩
                  have hS : Below x3.heap.size x3 wA := by rw [hwA]; exact bthen HM.out (Below.refl _ _).drew
                  rw [← hwA]
                  clear hwA
                  refine MixH.takes [true, true, true, true, true, false, true, true, true, true, true, true] 16 (by kernel_rfl) (by kernel_rfl) (by decide) (by kernel_rfl) hS (fun K hK => ?_)
                  simp only [Mix.pick]
                  repeat (go_big_quiet_step (fail))
                  refine wpQuiet_nil (hK _ ?_)
                  clear hK K
                  refine MixH.take 15 5 _ (.int .i64 mB.p.n) rfl (by kernel_rfl) (by kernel_rfl) (by kernel_rfl) (by kernel_rfl) (yields_int (.tmp 148) rfl ⟨mb, mo + (j + 1) * 36 + 17, none⟩ (.int .i64 mB.p.n) rfl rfl (fun A hA => range_n (FB.out A hA))) hS (fun a' ha => ?_)
                  simp only [Act.put, List.setIfInBounds_toArray, List.set_cons_succ, List.set_cons_zero] at ha
                  subst ha
                  refine MixH.take 14 12 _ (.int .i64 mA.p.n) rfl (by kernel_rfl) (by kernel_rfl) (by kernel_rfl) (by kernel_rfl) (yields_int (.tmp 155) rfl ⟨mb, mo + j * 36 + 17, none⟩ (.int .i64 mA.p.n) rfl rfl (fun A hA => range_n (FA.out A hA))) hS (fun a' ha => ?_)
                  simp only [Act.put, List.setIfInBounds_toArray, List.set_cons_succ, List.set_cons_zero] at ha
                  subst ha
                  refine MixH.takes [false, false, false, false, false, false, false, false, false, false, false, false, false, true, true, true, true, true, true, false, true, true, true] 5 (by kernel_rfl) (by kernel_rfl) (by decide) (by kernel_rfl) hS (fun K hK => ?_)
                  simp only [Mix.pick]
                  repeat (go_big_quiet_step (fail))
                  refine wpQuiet_nil (hK _ ?_)
                  clear hK K
                  refine MixH.take 4 19 _ (.agg (pfC mB.p)) rfl (by kernel_rfl) (by kernel_rfl) (by kernel_rfl) (by kernel_rfl) (yields_pfx (.tmp 162) rfl mb (mo + (j + 1) * 36) mB.p rfl rfl (fun A hA => range_pfx (FB.out A hA))) hS (fun a' ha => ?_)
                  simp only [Act.put, List.setIfInBounds_toArray, List.set_cons_succ, List.set_cons_zero] at ha
                  subst ha
                  refine MixH.take 3 23 _ (.agg (ipCells V x)) rfl (by kernel_rfl) (by kernel_rfl) (by kernel_rfl) (by kernel_rfl) (yields_ipr (.tmp 166) rfl pb (po + i * 17) V x rfl rfl (fun A hA => FP3.out A hA)) hS (fun a' ha => ?_)
                  simp only [Act.put, List.setIfInBounds_toArray, List.set_cons_succ, List.set_cons_zero] at ha
                  subst ha
                  refine MixH.one [false, false, false, false, false, false, false, false, false, false, false, false, false, false, false, false, false, false, false, false, false, false, false, false, true] 2 24 _ rfl rfl (by kernel_rfl) (by kernel_rfl) (fun K hK => ?_)
                  simp only [Mix.pick]
                  go_wp2_with fail
                  refine Calls.mono (QC.out wA) ?_
                  rintro e wB ⟨rfl, bB⟩
                  replace hS : Below x3.heap.size x3 wB := bthen hS bB
                  clear bB
                  go_wp2_with fail
                  refine ⟨rfl, hK _ _ hS ?_⟩
                  clear hK K
                  refine MixH.takes [false, false, false, false, false, false, false, false, false, false, false, false, false, false, false, false, false, false, false, false, false, false, false, false, false, true, true] 0 (by kernel_rfl) (by kernel_rfl) (by decide) (by kernel_rfl) hS (fun K hK => ?_)
                  simp only [Mix.pick]
                  repeat (go_big_quiet_step (fail))
                  refine wpQuiet_nil (hK _ ?_)
                  clear hK K
                  refine MixH.done (by kernel_rfl) ?_
                  have HA1 : Hid (Below x3.heap.size x3 wB) := hS
                  clear hS
                  go_wp2_with fail
                  go_roundw
                  case rel => exact ⟨j + 1, by first | rfl | simp, by have := HJ.out; omega, HA1⟩
                  case measure => have := HJ.out; simp [intOf]; omega
                · have j1 : ¬ ((j + 1 : Nat) : Int) < (NM : Int) := by omega
                  clear hjl
                  have HE : Hid (Below Z.heap.size Z wr) := bthen HX2.out.1 (bthen HX3.out HM.out)
                  go_wp2_with fail
                  go_roundw
                  case rel => exact ⟨i + 1, by simp, by have := HIK.out; omega, by have := HIK.out; omega, HE⟩
                  case measure => have := HIK.out; simp [intOf]; omega
      · have q6 : ¬ (i : Int) < 60 := by omega
        have HE : Hid (Below w.heap.size w wr) := bthen HZ.out.2.2 HW.out
        clear h60
        go_wp2_with fail
        go_ret
        exact ⟨rfl, HE.out⟩
    · have q1 : ¬ (i : Int) < (NI : Int) := by omega
      have HE : Hid (Below w.heap.size w wr) := bthen HZ.out.2.2 HW.out
      clear hlt
      go_wp2_with fail
      go_ret
      exact ⟨rfl, HE.out⟩
end Go.Proofs.YtkfoadapakdmmaaDoor
