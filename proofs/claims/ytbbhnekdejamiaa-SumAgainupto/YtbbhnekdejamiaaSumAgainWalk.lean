/-
  The walk of SumAgain.
-/
import Derived.Test.YtbbhnekdejamiaaSAOpen
import Derived.Test.YtbbhnekdejamiaaSA3
import Derived.Test.YtbbhnekdejamiaaSA6
import Derived.Test.YtbbhnekdejamiaaSRef2c
import Derived.Deep.DeepCutAuto
namespace Go.Proofs.Ytbbhnekdejamiaa
open Go.RowKit
open Wd Ap

theorem parts_of {w : World} {a : Option Addr} {rs : List Part} (h : PartsU w a rs) (n : Nat) : Parts w a (rs.take n) := by
  rcases h with rfl | ⟨b, off, ha, hlt, hc⟩
  · exact ⟨.inl (by simp), by simp⟩
  · refine ⟨.inr ⟨b, off, ha, fun i hi => ?_⟩, fun p hp => ?_⟩
    · have hi' : i < rs.length := by rw [List.length_take] at hi; omega
      have h1 := (hc i rs[i] (List.getElem?_eq_getElem hi')).2 0 (by omega)
      rw [Nat.mul_one, Nat.add_zero] at h1
      rw [h1, List.getElem_take]
      rfl
    · obtain ⟨i, hi⟩ := List.getElem?_of_mem (List.mem_of_mem_take hp)
      exact (hc i p hi).1.1
theorem parts_small {w : World} {a : Option Addr} {rs : List Part} (h : PartsU w a rs) : ∀ p ∈ rs, p.l.length ≤ 1048576 ∧ ∀ x ∈ p.l, x < 256 := by
  rcases h with rfl | ⟨b, off, ha, hlt, hc⟩
  · simp
  · intro p hp
    obtain ⟨i, hi⟩ := List.getElem?_of_mem hp
    have h1 := (hc i p hi).1
    have h2 := h1.1.2.2.1
    exact ⟨by have := h1.2; omega, h1.1.2.1⟩
theorem eB_of {E : List LE} {ps : List Part} (h : E.map LE.l = ps.map Part.l) (hp : ∀ p ∈ ps, p.l.length ≤ 1048576 ∧ ∀ x ∈ p.l, x < 256) : ∀ e ∈ E, eB e := by
  intro e he
  have h1 : e.l ∈ E.map LE.l := List.mem_map_of_mem he
  rw [h] at h1
  obtain ⟨p, hpm, e2⟩ := List.mem_map.1 h1
  rw [eB, ← e2]
  exact hp p hpm
theorem map_part (E : List LE) : (E.map LE.part).map Part.l = E.map LE.l := by rw [List.map_map]; rfl
set_option maxHeartbeats 12800000 in
set_option maxRecDepth 100000 in
theorem sumAgain.walk (w : World) (a : Option Addr) (len cap : Nat) (rs : List Part) (hl : rs.length = len) (hs : PartsU w a rs) (hn : len ≤ 1048576) (hcp : len ≤ cap ∧ cap ≤ 9223372036854775807) (c : Int) (_ : (Lit.int .i64 c).wf = true) (ta : Option Addr) (tl tc : Nat) (ts : List TuV) (htl : ts.length = tl) (hts : TurnsU w ta ts) (_ : tl ≤ 1048576) :
    Calls Try.prog 3 #[.slice a len cap, .int .i64 c, .slice ta tl tc] w fun e w' => e = .returned (.bool true) ∧ Below w.heap.size w w' := by
  obtain ⟨j0, hj, hy0, hy1, hy2⟩ := info_parts infoBytes
  have HL : Hid (rs.length = len) := hl
  have HS : Hid (PartsU w a rs) := hs
  have HTL : Hid (ts.length = tl) := htl
  have HTS : Hid (∀ A, Below w.heap.size w A → TurnsU A ta ts) := fun A hA => ListG.old hts hA
  obtain ⟨hcp1, hcp2⟩ := hcp
  obtain ⟨n, hnn⟩ : ∃ n, n = min len 40 := ⟨_, rfl⟩
  have HNN : Hid (n = min len 40) := hnn
  have hn40 : n ≤ 40 := by omega
  have HQ0 : Hid _ := awake_any w
  clear hl hs htl hts hnn
  go_enter Try.func3, Try.ntmps3
  go_wp2_with fail
  refine Calls.mono HQ0.out ?_
  rintro e w1 ⟨rfl, bel1⟩
  clear HQ0
  go_upto_if 23 with fail
  go_cut [0] (fun s wx => s = .slice a n cap ∧ w1 = wx)
  case first =>
    by_cases h40 : 40 < len
    · have e40 : n = 40 := by have := HNN.out; omega
      have h1 : (40 : Int) < (len : Int) := by omega
      have h2 : (40 : Int) ≤ (cap : Int) := by omega
      have h3 : 40 ≤ cap := by omega
      clear h40
      go_wp2
      go_meet
      exact ⟨by rw [e40], rfl⟩
    · have e40 : n = len := by have := HNN.out; omega
      have h1 : ¬ (40 : Int) < (len : Int) := by omega
      clear h40
      go_wp2
      go_meet
      exact ⟨by rw [e40], rfl⟩
  case rest =>
  obtain ⟨rfl, rfl⟩ := hcut
  have hlen : (rs.take n).length = n := by rw [List.length_take, HL.out]; have := HNN.out; omega
  have hps : Parts w1 a (rs.take n) := by
    have h0 := parts_of HS.out n
    refine ⟨?_, fun p hp => ?_⟩
    · rcases h0.1 with h | ⟨b, off, ha, hc⟩
      · exact .inl h
      · exact .inr ⟨b, off, ha, fun i hi => (bel1.cell (p := ⟨b, off + i, none⟩) (World.block_lt_of_cell? w _ (hc i hi))).trans (hc i hi)⟩
    · have h1 := h0.2 p hp
      exact ⟨h1.1.below (B := w.heap.size) h1.1.lt bel1, h1.2⟩
  have hsm : ∀ p ∈ rs.take n, p.l.length ≤ 1048576 ∧ ∀ x ∈ p.l, x < 256 := fun p hp => parts_small HS.out p (List.mem_of_mem_take hp)
  have QL : Hid _ := list_any w1 a n cap (rs.take n) hlen hps hn40 (fun p hp => by have := (hsm p hp).1; omega)
  have HSM : Hid (∀ p ∈ rs.take n, p.l.length ≤ 1048576 ∧ ∀ x ∈ p.l, x < 256) := hsm
  have HLE : Hid ((rs.take n).length = n) := hlen
  clear hlen hps hsm
  go_wp2_with fail
  refine Calls.mono QL.out ?_
  rintro e w2 ⟨gl, cp, E0, ms, rfl, hli, hEl, hml, hb2⟩
  have bel2 := bthen bel1 hb2
  obtain ⟨B0, hB0⟩ : ∃ B0, B0 = w1.heap.size := ⟨_, rfl⟩
  rw [← hB0] at hli
  have HWB : Hid (w.heap.size ≤ B0) := by rw [hB0]; exact bel1.size
  have hE0 : E0.length = n := by
    have := congrArg List.length hEl
    simp only [List.length_map] at this
    rw [this]; exact HLE.out
  have HST : Hid (Li B0 w2 (lV gl cp n) E0 ms ∧ E0.length = n ∧ (∀ e ∈ E0, eB e) ∧ Below w.heap.size w w2) := ⟨hli, hE0, eB_of hEl HSM.out, bel2⟩
  have HML : Hid (ms.length = n + 9) := hml
  clear QL hli hEl hml hb2 bel1 hB0 hE0 HSM HLE HS HL HNN bel2
  go_wp2
  go_loopw [8] (fun ix wr => ∃ (q : Nat) (E : List LE), ix = .int .i64 q ∧ q ≤ 13 ∧ Hid (Li B0 wr (lV gl cp n) E ms ∧ E.length = n ∧ (∀ e ∈ E, eB e) ∧ Below w.heap.size w wr)) (fun ix _ => 13 - (intOf ix).toNat)
  case atStart => exact ⟨0, E0, rfl, by omega, HST⟩
  case round =>
    obtain ⟨q, E, rfl, hq, HI⟩ := hrel
    clear HST
    by_cases hgo : q ≤ tl ∧ q ≤ 12
    case neg =>
      by_cases h1 : q ≤ tl
      · have g1 : (q : Int) ≤ (tl : Int) := by omega
        have g2 : ¬ (q : Int) ≤ 12 := by omega
        have hb := HI.out.2.2.2
        have QA : Hid _ := awake_any wr
        clear hgo h1
        go_wp2_with fail
        refine Calls.mono QA.out ?_
        rintro e w9 ⟨rfl, hb9⟩
        go_wp2
        go_ret
        exact ⟨rfl, bthen hb hb9⟩
      · have g1 : ¬ (q : Int) ≤ (tl : Int) := by omega
        have hb := HI.out.2.2.2
        have QA : Hid _ := awake_any wr
        clear hgo h1
        go_wp2_with fail
        refine Calls.mono QA.out ?_
        rintro e w9 ⟨rfl, hb9⟩
        go_wp2
        go_ret
        exact ⟨rfl, bthen hb hb9⟩
    obtain ⟨hq1, hq2⟩ := hgo
    have g1 : (q : Int) ≤ (tl : Int) := by omega
    have g2 : (q : Int) ≤ 12 := by omega
    obtain ⟨w3, hw3⟩ : ∃ w3, w3 = wr := ⟨_, rfl⟩
    rw [← hw3] at HI ⊢
    clear hw3
    go_upto_region 10 with fail
    clear g1 g2
    go_wp2
    go_loopw [9, 10] (fun lv ix wq => ∃ (k : Nat) (ps : List Part), k ≤ n ∧ ix = .int .i64 k ∧ wq.ownsRow w3.heap.size 26 1 lv k (ps.map Part.val) ∧ Hid (Nw w3 wq lv ps ∧ ps.length = k ∧ ps.map Part.l = (E.take k).map LE.l)) (fun _ ix _ => n - (intOf ix).toNat)
    case atStart => exact ⟨0, [], Nat.zero_le _, rfl, World.ownsRow_nil _ _ _ _, Nw.start w3, rfl, by simp⟩
    case round =>
      obtain ⟨k, ps, hk, rfl, hrow, ST⟩ := hrel
      by_cases hlt : k < n
      · have hkE : k < E.length := by rw [HI.out.2.1]; exact hlt
        obtain ⟨e, he⟩ : ∃ e, e = E[k] := ⟨_, rfl⟩
        have hem : e ∈ E := by rw [he]; exact List.getElem_mem _
        have hlw := (HI.out.1.below (ST.out.1.bel))
        have cel : wr.cell? ⟨gl, k, none⟩ = some (.slice (some ⟨e.g, 0, none⟩) e.l.length (2 * e.l.length + 70)) := by
          have hr := hlw.row
          rw [HI.out.2.1, HML.out] at hr
          have := hr.cellAt k (by omega)
          rw [this, List.getElem?_append_left (by rw [List.length_map]; exact hkE)]
          simp only [List.getElem?_map, Option.map_eq_some_iff]
          exact ⟨_, List.getElem?_eq_getElem _, by rw [← he]; rfl⟩
        have heb := HI.out.2.2.1 e hem
        have pok := hlw.pok HI.out.2.2.1 e hem
        obtain ⟨M, hM⟩ : ∃ M, M = e.l.length := ⟨_, rfl⟩
        have hM20 : M ≤ 1048576 := by rw [hM]; exact heb.1
        rw [← hM] at cel
        have Q : Hid _ := copied_any (some ⟨e.g, 0, none⟩) M (2 * M + 70) e.l wr hM.symm pok.1 (by omega)
        have HEK : Hid (E[k]? = some e) := by rw [he]; exact List.getElem?_eq_getElem _
        have HE256 : Hid (∀ x ∈ e.l, x < 256) := heb.2
        have HMM : Hid (M = e.l.length) := hM
        have k0 : (0 : Int) ≤ (k : Int) := by omega
        have k1 : (k : Int) < (n : Int) := by omega
        have k2 : ((k : Int)).toNat = k := by omega
        clear he hem hlw heb pok hM hkE
        go_wp2_with fail
        refine Calls.mono Q.out ?_
        rintro ee w4 ⟨v4, rfl, ho, hb4⟩
        obtain ⟨va, vc, rfl⟩ := owns_shape ho
        have hrow1 : (w4.alloc (.cells #[.slice va M vc] 26)).ownsRow w3.heap.size 26 1 u9 k (ps.map Part.val) := (hrow.kept (below_grown hb4 none) (by cases hv : u9.ownBlock <;> simp)).alloc _
        have HO : Hid (OwnB w4 wr.heap.size (.slice va M vc) M e.l) := ho
        have HB4 : Hid (Below wr.heap.size wr w4) := hb4
        have hsz : w3.heap.size ≤ w4.heap.size := Nat.le_trans ST.out.1.bel.size hb4.size
        clear ho hb4 Q hrow cel
        go_wp2_with (first | (at_builtin; refine wpList_append_own _ rfl (.tmp 44) (.tmp 50) 22 rfl w3.heap.size 26 j0 (.slice none 0 0) 1 24 Try.underlying22 hj hy0 hy1 hy2 rfl (by decide) _ _ _ rfl hrow1 ⟨w4.heap.size, 0, none⟩ 1 1 [.slice va M vc] rfl rfl (news1w _ _ _) (by intro u hu; simp at hu; subst hu; rfl) (by unfold maxLen; omega) (by omega) (by simp; omega) ?_))
        intro v6 w6 ho6 hg6 _
        have NX : Hid (Nw w3 w6 v6 (ps ++ [⟨va, vc, e.l⟩]) ∧ (ps ++ [(⟨va, vc, e.l⟩ : Part)]).length = k + 1 ∧ (ps ++ [(⟨va, vc, e.l⟩ : Part)]).map Part.l = (E.take (k + 1)).map LE.l) := by
          have hpv : (⟨va, vc, e.l⟩ : Part).val = .slice va M vc := by unfold Part.val; rw [HMM.out]
          refine ⟨ST.out.1.push HB4.out ⟨va, vc, e.l⟩ HE256.out (by rw [hpv]; show OwnB w4 wr.heap.size _ e.l.length e.l; rw [← HMM.out]; exact HO.out) _ (by rw [ST.out.2.1, hpv]; exact ho6) hg6, by simp [ST.out.2.1], ?_⟩
          rw [List.take_add_one, HEK.out, List.map_append, List.map_append, ST.out.2.2]
          simp
        have hr6 : w6.ownsRow w3.heap.size 26 1 v6 (k + 1) ((ps ++ [(⟨va, vc, e.l⟩ : Part)]).map Part.val) := by
          have := NX.out.1.row
          rw [NX.out.2.1] at this
          exact this
        clear ho6 hg6 hrow1 HO HB4 ST HEK HE256 HMM
        go_wp2
        go_roundw
        case rel => exact ⟨k + 1, _, by omega, by go_num, hr6, NX⟩
        case measure => simp [intOf]; omega
      · have hkn : k = n := by omega
        have hni : ¬ ((k : Int) < (n : Int)) := by omega
        subst hkn
        obtain ⟨pa, pc, hpv⟩ := owns_shape hrow
        subst hpv
        have hpl := ST.out.2.1
        have HPL : Hid (ps.length = k) := hpl
        have hml : ps.map Part.l = E.map LE.l := by rw [ST.out.2.2, ← HI.out.2.1, List.take_length]
        have HMP : Hid (E.map LE.l = ps.map Part.l) := hml.symm
        have HPA : Hid (∀ A, Below wr.heap.size wr A → Parts A pa ps) := fun A hA => by
          have h0 := ST.out.1
          rw [← hpl] at h0
          have h1 := h0.parts
          refine ⟨?_, fun p hp => ?_⟩
          · rcases h1.1 with h | ⟨b, off, ha, hc⟩
            · exact .inl h
            · exact .inr ⟨b, off, ha, fun i hi => (hA.cell (p := ⟨b, off + i, none⟩) (World.block_lt_of_cell? wr _ (hc i hi))).trans (hc i hi)⟩
          · have h2 := h1.2 p hp
            exact ⟨h2.1.below (B := wr.heap.size) h2.1.lt hA, h2.2⟩
        have HLA : Hid (∀ A, Below wr.heap.size wr A → Li B0 A (lV gl cp k) E ms) := fun A hA => (HI.out.1.below ST.out.1.bel).below hA
        have HPE : Hid (∀ A, Below wr.heap.size wr A → Parts A (some ⟨gl, 0, none⟩) (E.map LE.part)) := fun A hA => (HLA.out A hA).parts HI.out.2.2.1 (by rw [HI.out.2.1, HML.out])
        have belR : Below w.heap.size w wr := bthen HI.out.2.2.2 ST.out.1.bel
        have HEN : Hid (E.length = k) := HI.out.2.1
        have HEB : Hid (∀ e ∈ E, eB e) := HI.out.2.2.1
        have hal : (allB (E.map LE.part)).length ≤ 1099511627776 := by
          have h1 := allB_le (E.map LE.part) 1048576 (fun p hp => by
            obtain ⟨e, he, rfl⟩ := List.mem_map.1 hp
            exact (HEB.out e he).1)
          rw [List.length_map, HEN.out] at h1
          have : k * 1048576 ≤ 40 * 1048576 := Nat.mul_le_mul_right _ hn40
          omega
        have hsame : allB ps = allB (E.map LE.part) := allB_same (by rw [map_part]; exact hml)
        have HQ1 : Hid (∀ A, Below wr.heap.size wr A → Calls Try.prog 7 #[.slice (some ⟨gl, 0, none⟩) k cp] A fun e w' => e = .returned (.int .i64 ((S.fold (S.wv false (allB ps)) : Nat) : Int)) ∧ Below A.heap.size A w') := fun A hA => by
          rw [hsame]
          exact sum_any _ k cp (E.map LE.part) A (by rw [List.length_map]; exact HEN.out) (HPE.out A hA) hal (by omega)
        have HQ2 : Hid (∀ A, Below wr.heap.size wr A → Calls Try.prog 8 #[.slice pa k pc] A fun e w' => e = .returned (.int .i64 ((S.fold (S.wv false (allB ps)) : Nat) : Int)) ∧ A = w') := fun A hA => rsum_any pa k pc ps A HPL.out (HPA.out A hA) (by rw [hsame]; exact hal) (by omega)
        have HQ3 : Hid (∀ A, Below wr.heap.size wr A → Calls Try.prog 9 #[.slice (some ⟨gl, 0, none⟩) k cp] A fun e w' => e = .returned (.int .i64 ((65535 - S.fold (S.wv false (allB ps)) : Nat) : Int)) ∧ Below A.heap.size A w') := fun A hA => by
          rw [hsame]
          exact check_any _ k cp (E.map LE.part) A (by rw [List.length_map]; exact HEN.out) (HPE.out A hA) hal (by omega)
        have HQ4 : Hid (∀ A, Below wr.heap.size wr A → Calls Try.prog 10 #[.slice pa k pc] A fun e w' => e = .returned (.int .i64 ((65535 - S.fold (S.wv false (allB ps)) : Nat) : Int)) ∧ A = w') := fun A hA => rcheck_any pa k pc ps A HPL.out (HPA.out A hA) (by rw [hsame]; exact hal) (by omega)
        have HQ5 : Hid (∀ A, Below wr.heap.size wr A → Calls Try.prog 11 #[.slice (some ⟨gl, 0, none⟩) k cp] A fun e w' => e = .returned (.bool (decide (S.fold (S.wv false (allB ps)) = 65535))) ∧ Below A.heap.size A w') := fun A hA => by
          rw [hsame]
          exact good_any _ k cp (E.map LE.part) A (by rw [List.length_map]; exact HEN.out) (HPE.out A hA) hal (by omega)
        have HQ6 : Hid (∀ A, Below wr.heap.size wr A → Calls Try.prog 12 #[.slice pa k pc] A fun e w' => e = .returned (.bool (decide (S.fold (S.wv false (allB ps)) = 65535))) ∧ A = w') := fun A hA => rgood_any pa k pc ps A HPL.out (HPA.out A hA) (by rw [hsame]; exact hal) (by omega)
        obtain ⟨X, hX⟩ : ∃ X, X = S.fold (S.wv false (allB ps)) := ⟨_, rfl⟩
        rw [← hX] at HQ1 HQ2 HQ3 HQ4 HQ5 HQ6
        obtain ⟨Y, hY⟩ : ∃ Y, Y = 65535 - X := ⟨_, rfl⟩
        rw [← hY] at HQ3 HQ4
        obtain ⟨Z, hZ⟩ : ∃ Z, Z = decide (X = 65535) := ⟨_, rfl⟩
        rw [← hZ] at HQ5 HQ6
        clear hX hY hZ hal hsame hml hpl hrow ST hlt HI hk
        have bX : ((X : Int) != (X : Int)) = false := by simp
        have bY : ((Y : Int) != (Y : Int)) = false := by simp
        have bZ : (Z != Z) = false := by simp
        obtain ⟨w5, hw5⟩ : ∃ w5, w5 = wr := ⟨_, rfl⟩
        rw [← hw5] at HQ1 HQ2 HQ3 HQ4 HQ5 HQ6 HPA HLA HPE belR ⊢
        clear hw5
        have z5 : Below w5.heap.size w5 w5 := Below.refl _ _
        go_wp2_with fail
        refine Calls.mono (HQ1.out w5 z5) ?_
        rintro e1 w6 ⟨rfl, hb6⟩
        have z6 : Below w5.heap.size w5 w6 := hb6
        go_wp2_with fail
        refine Calls.mono (HQ2.out w6 z6) ?_
        rintro e1 w7 ⟨rfl, rfl⟩
        go_wp2_with fail
        refine Calls.mono (HQ3.out w6 z6) ?_
        rintro e1 w8 ⟨rfl, hb8⟩
        have z8 : Below w5.heap.size w5 w8 := bthen z6 hb8
        go_wp2_with fail
        refine Calls.mono (HQ4.out w8 z8) ?_
        rintro e1 w9 ⟨rfl, rfl⟩
        go_wp2_with fail
        refine Calls.mono (HQ5.out w8 z8) ?_
        rintro e1 w10 ⟨rfl, hb10⟩
        have z10 : Below w5.heap.size w5 w10 := bthen z8 hb10
        go_wp2_with fail
        refine Calls.mono (HQ6.out w10 z10) ?_
        rintro e1 w11 ⟨rfl, rfl⟩
        clear HQ1 HQ2 HQ3 HQ4 HQ5 HQ6 z5 z6 z8 hb6 hb8 hb10
        go_upto_if 73 with fail
        clear bX bY bZ
        go_cut [] (fun wx => Below w5.heap.size w5 wx)
        case first =>
          by_cases hk1 : 1 < k
          · have kk : (1 : Int) < (k : Int) := by omega
            have kk0 : (0 : Int) < (k : Int) := by omega
            have hE0 : 0 < E.length := by rw [HEN.out]; omega
            have hE1 : 1 < E.length := by rw [HEN.out]; omega
            have hp0 : 0 < ps.length := by rw [HPL.out]; omega
            have hp1 : 1 < ps.length := by rw [HPL.out]; omega
            obtain ⟨e0, he0⟩ : ∃ e, e = E[0] := ⟨_, rfl⟩
            obtain ⟨e1, he1⟩ : ∃ e, e = E[1] := ⟨_, rfl⟩
            obtain ⟨p0, hpp0⟩ : ∃ p, p = ps[0] := ⟨_, rfl⟩
            obtain ⟨p1, hpp1⟩ : ∃ p, p = ps[1] := ⟨_, rfl⟩
            have m0 : e0 ∈ E := by rw [he0]; exact List.getElem_mem _
            have m1 : e1 ∈ E := by rw [he1]; exact List.getElem_mem _
            have n0 : p0 ∈ ps := by rw [hpp0]; exact List.getElem_mem _
            have n1 : p1 ∈ ps := by rw [hpp1]; exact List.getElem_mem _
            have l0 : e0.l = p0.l := by
              have h := congrArg (fun z => z[0]?) HMP.out
              simp only [List.getElem?_map, List.getElem?_eq_getElem hE0, List.getElem?_eq_getElem hp0, Option.map_some, Option.some.injEq] at h
              rw [he0, hpp0]; exact h
            have l1 : e1.l = p1.l := by
              have h := congrArg (fun z => z[1]?) HMP.out
              simp only [List.getElem?_map, List.getElem?_eq_getElem hE1, List.getElem?_eq_getElem hp1, Option.map_some, Option.some.injEq] at h
              rw [he1, hpp1]; exact h
            obtain ⟨L0, hL0⟩ : ∃ L0, L0 = e0.l.length := ⟨_, rfl⟩
            obtain ⟨L1, hL1⟩ : ∃ L1, L1 = e1.l.length := ⟨_, rfl⟩
            have hL0p : p0.l.length = L0 := by rw [← l0]; exact hL0.symm
            have hL1p : p1.l.length = L1 := by rw [← l1]; exact hL1.symm
            have b0 : L0 ≤ 1048576 := by rw [hL0]; exact (HEB.out e0 m0).1
            have b1 : L1 ≤ 1048576 := by rw [hL1]; exact (HEB.out e1 m1).1
            have hcel : ∀ A, Below w5.heap.size w5 A → ∀ i, (hi : i < E.length) → A.cell? ⟨gl, i, none⟩ = some (E[i]).v := fun A hA i hi => by
              have hr := (HLA.out A hA).row
              rw [HEN.out, HML.out] at hr
              have := hr.cellAt i (by rw [HEN.out] at hi; omega)
              rw [this, List.getElem?_append_left (by rw [List.length_map]; exact hi)]
              simp only [List.getElem?_map, Option.map_eq_some_iff]
              exact ⟨_, List.getElem?_eq_getElem _, rfl⟩
            have HC0 : Hid (∀ A, Below w5.heap.size w5 A → A.cell? ⟨gl, 0, none⟩ = some (.slice (some ⟨e0.g, 0, none⟩) L0 (2 * L0 + 70))) := fun A hA => by rw [hL0, he0]; exact hcel A hA 0 hE0
            have HC1 : Hid (∀ A, Below w5.heap.size w5 A → A.cell? ⟨gl, 1, none⟩ = some (.slice (some ⟨e1.g, 0, none⟩) L1 (2 * L1 + 70))) := fun A hA => by rw [hL1, he1]; exact hcel A hA 1 hE1
            obtain ⟨pb, po, hpa, _⟩ : ∃ pb po, pa = some ⟨pb, po, none⟩ ∧ True := by
              rcases (HPA.out w5 (Below.refl _ _)).1 with h | ⟨b, off, ha, _⟩
              · rw [h] at hp0; simp at hp0
              · exact ⟨b, off, ha, trivial⟩
            have hpc : ∀ A, Below w5.heap.size w5 A → ∀ i, (hi : i < ps.length) → A.cell? ⟨pb, po + i, none⟩ = some (ps[i]).val := fun A hA i hi => by
              rcases (HPA.out A hA).1 with h | ⟨b, off, ha, hc⟩
              · rw [h] at hi; simp at hi
              · rw [hpa] at ha
                have e2 := Option.some.inj ha
                simp only [Addr.mk.injEq, and_true] at e2
                obtain ⟨rfl, rfl⟩ := e2
                exact hc i hi
            have HD0 : Hid (∀ A, Below w5.heap.size w5 A → A.cell? ⟨pb, po, none⟩ = some (.slice p0.a L0 p0.cap)) := fun A hA => by
              have := hpc A hA 0 hp0
              rw [Nat.add_zero] at this
              rw [this, ← hpp0]
              unfold Part.val
              rw [hL0p]
            have HD1 : Hid (∀ A, Below w5.heap.size w5 A → A.cell? ⟨pb, po + 1, none⟩ = some (.slice p1.a L1 p1.cap)) := fun A hA => by
              have := hpc A hA 1 hp1
              rw [this, ← hpp1]
              unfold Part.val
              rw [hL1p]
            have pe0 : ∀ A, Below w5.heap.size w5 A → Part.ok A ⟨some ⟨e0.g, 0, none⟩, 2 * L0 + 70, p0.l⟩ := fun A hA => by
              have h := (HLA.out A hA).pok HEB.out e0 m0
              unfold LE.part at h
              rw [← hL0, l0] at h
              exact h
            have pe1 : ∀ A, Below w5.heap.size w5 A → Part.ok A ⟨some ⟨e1.g, 0, none⟩, 2 * L1 + 70, p1.l⟩ := fun A hA => by
              have h := (HLA.out A hA).pok HEB.out e1 m1
              unfold LE.part at h
              rw [← hL1, l1] at h
              exact h
            have HF1 : Hid (∀ A, Below w5.heap.size w5 A → Calls Try.prog 13 #[.int .i64 c, .slice (some ⟨e0.g, 0, none⟩) L0 (2 * L0 + 70), .slice (some ⟨e1.g, 0, none⟩) L1 (2 * L1 + 70)] A fun e w' => e = .returned (.tuple #[.int .i64 (fbN c p0.l p1.l), .int .i64 (fbE c p0.l p1.l)]) ∧ Below A.heap.size A w') := fun A hA => fixBytes_any c _ _ L0 L1 _ _ p0.l p1.l A hL0p hL1p (pe0 A hA) (pe1 A hA) (by omega)
            have HF2 : Hid (∀ A, Below w5.heap.size w5 A → Calls Try.prog 14 #[.int .i64 c, .slice p0.a L0 p0.cap, .slice p1.a L1 p1.cap] A fun e w' => e = .returned (.tuple #[.int .i64 (fbN c p0.l p1.l), .int .i64 (fbE c p0.l p1.l)]) ∧ Below A.heap.size A w') := fun A hA => rfixBytes_any c _ _ L0 L1 _ _ p0.l p1.l A hL0p hL1p ((HPA.out A hA).2 p0 n0) ((HPA.out A hA).2 p1 n1) (by omega)
            have HF3 : Hid (∀ A, Below w5.heap.size w5 A → Calls Try.prog 13 #[.int .i64 c, .slice (some ⟨e1.g, 0, none⟩) L1 (2 * L1 + 70), .slice (some ⟨e1.g, 0, none⟩) L1 (2 * L1 + 70)] A fun e w' => e = .returned (.tuple #[.int .i64 (fbN c p1.l p1.l), .int .i64 (fbE c p1.l p1.l)]) ∧ Below A.heap.size A w') := fun A hA => fixBytes_any c _ _ L1 L1 _ _ p1.l p1.l A hL1p hL1p (pe1 A hA) (pe1 A hA) (by omega)
            have HF4 : Hid (∀ A, Below w5.heap.size w5 A → Calls Try.prog 14 #[.int .i64 c, .slice p1.a L1 p1.cap, .slice p1.a L1 p1.cap] A fun e w' => e = .returned (.tuple #[.int .i64 (fbN c p1.l p1.l), .int .i64 (fbE c p1.l p1.l)]) ∧ Below A.heap.size A w') := fun A hA => rfixBytes_any c _ _ L1 L1 _ _ p1.l p1.l A hL1p hL1p ((HPA.out A hA).2 p1 n1) ((HPA.out A hA).2 p1 n1) (by omega)
            obtain ⟨N1, hN1⟩ : ∃ N, N = fbN c p0.l p1.l := ⟨_, rfl⟩
            obtain ⟨R1, hR1⟩ : ∃ N, N = fbE c p0.l p1.l := ⟨_, rfl⟩
            obtain ⟨N2, hN2⟩ : ∃ N, N = fbN c p1.l p1.l := ⟨_, rfl⟩
            obtain ⟨R2, hR2⟩ : ∃ N, N = fbE c p1.l p1.l := ⟨_, rfl⟩
            rw [← hN1, ← hR1] at HF1 HF2
            rw [← hN2, ← hR2] at HF3 HF4
            have bq1 : (R1 != R1) = false := by simp
            have bq2 : (N1 != N1) = false := by simp
            have bq3 : (R2 != R2) = false := by simp
            have bq4 : (N2 != N2) = false := by simp
            have HPAE : Hid (pa = some ⟨pb, po, none⟩) := hpa
            rw [hpa]
            clear hE0 hE1 hp0 hp1 he0 he1 hpp0 hpp1 m0 m1 n0 n1 l0 l1 hL0 hL1 hL0p hL1p hcel hpc pe0 pe1 hN1 hR1 hN2 hR2 hpa hk1
            go_upto_region 17 with fail
            refine MixH.start (fun A => Below w10.heap.size w10 A) (by kernel_rfl) ?_
            obtain ⟨wA, hwA⟩ : ∃ wA, wA = w10.drew := ⟨_, rfl⟩
            have hS : Below w10.heap.size w10 wA := by rw [hwA]; exact (Below.refl _ _).drew
            rw [← hwA]
            clear hwA
            refine MixH.takes [true, true, true, false, true, true] 8 (by kernel_rfl) (by kernel_rfl) (by decide) (by kernel_rfl) hS (fun K hK => ?_)
            simp only [Mix.pick]
            repeat (go_big_quiet_step (fail))
            refine wpQuiet_nil (hK _ ?_)
            clear hK K
            refine MixH.take 7 3 _ (.slice (some ⟨e0.g, 0, none⟩) L0 (2 * L0 + 70)) rfl (by kernel_rfl) (by kernel_rfl) (by kernel_rfl) (by kernel_rfl) (yields_sl (.tmp 77) rfl gl 0 _ rfl rfl (fun A hA => HC0.out A (bthen z10 hA))) hS (fun a' ha => ?_)
            simp only [Act.put, List.setIfInBounds_toArray, List.set_cons_succ, List.set_cons_zero] at ha
            subst ha
            refine MixH.take 6 6 _ (.slice (some ⟨e1.g, 0, none⟩) L1 (2 * L1 + 70)) rfl (by kernel_rfl) (by kernel_rfl) (by kernel_rfl) (by kernel_rfl) (yields_sl (.tmp 80) rfl gl 1 _ rfl rfl (fun A hA => HC1.out A (bthen z10 hA))) hS (fun a' ha => ?_)
            simp only [Act.put, List.setIfInBounds_toArray, List.set_cons_succ, List.set_cons_zero] at ha
            subst ha
            refine MixH.one [false, false, false, false, false, false, false, true] 5 7 _ rfl rfl (by kernel_rfl) (by kernel_rfl) (fun K hK => ?_)
            simp only [Mix.pick]
            go_wp2_with fail
            refine Calls.mono (HF1.out wA (bthen z10 hS)) ?_
            rintro e1 wB ⟨rfl, hbB⟩
            have hS2 : Below w10.heap.size w10 wB := bthen hS hbB
            clear hS hbB
            have hS := hS2
            clear hS2
            go_wp2
            refine ⟨rfl, hK _ _ hS ?_⟩
            clear hK K
            refine MixH.takes [false, false, false, false, false, false, false, false, true, true, true, true, true] 0 (by kernel_rfl) (by kernel_rfl) (by decide) (by kernel_rfl) hS (fun K hK => ?_)
            simp only [Mix.pick]
            repeat (go_big_quiet_step (fail))
            refine wpQuiet_nil (hK _ ?_)
            clear hK K
            refine MixH.done (by kernel_rfl) ?_
            obtain ⟨w21, hw21⟩ : ∃ w21, w21 = wB := ⟨_, rfl⟩
            rw [← hw21] at hS ⊢
            have z21 : Below w5.heap.size w5 w21 := bthen z10 hS
            clear hw21 hS
            go_upto_region 18 with fail
            refine MixH.start (fun A => Below w21.heap.size w21 A) (by kernel_rfl) ?_
            obtain ⟨wA, hwA⟩ : ∃ wA, wA = w21.drew := ⟨_, rfl⟩
            have hS : Below w21.heap.size w21 wA := by rw [hwA]; exact (Below.refl _ _).drew
            rw [← hwA]
            clear hwA
            refine MixH.takes [true, true, true, false, true, true] 8 (by kernel_rfl) (by kernel_rfl) (by decide) (by kernel_rfl) hS (fun K hK => ?_)
            simp only [Mix.pick]
            repeat (go_big_quiet_step (fail))
            refine wpQuiet_nil (hK _ ?_)
            clear hK K
            refine MixH.take 7 3 _ (.slice p0.a L0 p0.cap) rfl (by kernel_rfl) (by kernel_rfl) (by kernel_rfl) (by kernel_rfl) (yields_sl (.tmp 88) rfl pb po _ rfl rfl (fun A hA => HD0.out A (bthen z21 hA))) hS (fun a' ha => ?_)
            simp only [Act.put, List.setIfInBounds_toArray, List.set_cons_succ, List.set_cons_zero] at ha
            subst ha
            refine MixH.take 6 6 _ (.slice p1.a L1 p1.cap) rfl (by kernel_rfl) (by kernel_rfl) (by kernel_rfl) (by kernel_rfl) (yields_sl (.tmp 91) rfl pb (po + 1) _ rfl rfl (fun A hA => HD1.out A (bthen z21 hA))) hS (fun a' ha => ?_)
            simp only [Act.put, List.setIfInBounds_toArray, List.set_cons_succ, List.set_cons_zero] at ha
            subst ha
            refine MixH.one [false, false, false, false, false, false, false, true] 5 7 _ rfl rfl (by kernel_rfl) (by kernel_rfl) (fun K hK => ?_)
            simp only [Mix.pick]
            go_wp2_with fail
            refine Calls.mono (HF2.out wA (bthen z21 hS)) ?_
            rintro e1 wB ⟨rfl, hbB⟩
            have hS2 : Below w21.heap.size w21 wB := bthen hS hbB
            clear hS hbB
            have hS := hS2
            clear hS2
            go_wp2
            refine ⟨rfl, hK _ _ hS ?_⟩
            clear hK K
            refine MixH.takes [false, false, false, false, false, false, false, false, true, true, true, true, true] 0 (by kernel_rfl) (by kernel_rfl) (by decide) (by kernel_rfl) hS (fun K hK => ?_)
            simp only [Mix.pick]
            repeat (go_big_quiet_step (fail))
            refine wpQuiet_nil (hK _ ?_)
            clear hK K
            refine MixH.done (by kernel_rfl) ?_
            obtain ⟨w22, hw22⟩ : ∃ w22, w22 = wB := ⟨_, rfl⟩
            rw [← hw22] at hS ⊢
            have z22 : Below w5.heap.size w5 w22 := bthen z21 hS
            clear hw22 hS
            go_upto_region 19 with fail
            refine MixH.start (fun A => Below w22.heap.size w22 A) (by kernel_rfl) ?_
            obtain ⟨wA, hwA⟩ : ∃ wA, wA = w22.drew := ⟨_, rfl⟩
            have hS : Below w22.heap.size w22 wA := by rw [hwA]; exact (Below.refl _ _).drew
            rw [← hwA]
            clear hwA
            refine MixH.takes [true, true, true, false, true, true] 8 (by kernel_rfl) (by kernel_rfl) (by decide) (by kernel_rfl) hS (fun K hK => ?_)
            simp only [Mix.pick]
            repeat (go_big_quiet_step (fail))
            refine wpQuiet_nil (hK _ ?_)
            clear hK K
            refine MixH.take 7 3 _ (.slice (some ⟨e1.g, 0, none⟩) L1 (2 * L1 + 70)) rfl (by kernel_rfl) (by kernel_rfl) (by kernel_rfl) (by kernel_rfl) (yields_sl (.tmp 99) rfl gl 1 _ rfl rfl (fun A hA => HC1.out A (bthen z22 hA))) hS (fun a' ha => ?_)
            simp only [Act.put, List.setIfInBounds_toArray, List.set_cons_succ, List.set_cons_zero] at ha
            subst ha
            refine MixH.take 6 6 _ (.slice (some ⟨e1.g, 0, none⟩) L1 (2 * L1 + 70)) rfl (by kernel_rfl) (by kernel_rfl) (by kernel_rfl) (by kernel_rfl) (yields_sl (.tmp 102) rfl gl 1 _ rfl rfl (fun A hA => HC1.out A (bthen z22 hA))) hS (fun a' ha => ?_)
            simp only [Act.put, List.setIfInBounds_toArray, List.set_cons_succ, List.set_cons_zero] at ha
            subst ha
            refine MixH.one [false, false, false, false, false, false, false, true] 5 7 _ rfl rfl (by kernel_rfl) (by kernel_rfl) (fun K hK => ?_)
            simp only [Mix.pick]
            go_wp2_with fail
            refine Calls.mono (HF3.out wA (bthen z22 hS)) ?_
            rintro e1 wB ⟨rfl, hbB⟩
            have hS2 : Below w22.heap.size w22 wB := bthen hS hbB
            clear hS hbB
            have hS := hS2
            clear hS2
            go_wp2
            refine ⟨rfl, hK _ _ hS ?_⟩
            clear hK K
            refine MixH.takes [false, false, false, false, false, false, false, false, true, true, true, true, true] 0 (by kernel_rfl) (by kernel_rfl) (by decide) (by kernel_rfl) hS (fun K hK => ?_)
            simp only [Mix.pick]
            repeat (go_big_quiet_step (fail))
            refine wpQuiet_nil (hK _ ?_)
            clear hK K
            refine MixH.done (by kernel_rfl) ?_
            obtain ⟨w23, hw23⟩ : ∃ w23, w23 = wB := ⟨_, rfl⟩
            rw [← hw23] at hS ⊢
            have z23 : Below w5.heap.size w5 w23 := bthen z22 hS
            clear hw23 hS
            go_upto_region 20 with fail
            refine MixH.start (fun A => Below w23.heap.size w23 A) (by kernel_rfl) ?_
            obtain ⟨wA, hwA⟩ : ∃ wA, wA = w23.drew := ⟨_, rfl⟩
            have hS : Below w23.heap.size w23 wA := by rw [hwA]; exact (Below.refl _ _).drew
            rw [← hwA]
            clear hwA
            refine MixH.takes [true, true, true, false, true, true] 8 (by kernel_rfl) (by kernel_rfl) (by decide) (by kernel_rfl) hS (fun K hK => ?_)
            simp only [Mix.pick]
            repeat (go_big_quiet_step (fail))
            refine wpQuiet_nil (hK _ ?_)
            clear hK K
            refine MixH.take 7 3 _ (.slice p1.a L1 p1.cap) rfl (by kernel_rfl) (by kernel_rfl) (by kernel_rfl) (by kernel_rfl) (yields_sl (.tmp 110) rfl pb (po + 1) _ rfl rfl (fun A hA => HD1.out A (bthen z23 hA))) hS (fun a' ha => ?_)
            simp only [Act.put, List.setIfInBounds_toArray, List.set_cons_succ, List.set_cons_zero] at ha
            subst ha
            refine MixH.take 6 6 _ (.slice p1.a L1 p1.cap) rfl (by kernel_rfl) (by kernel_rfl) (by kernel_rfl) (by kernel_rfl) (yields_sl (.tmp 113) rfl pb (po + 1) _ rfl rfl (fun A hA => HD1.out A (bthen z23 hA))) hS (fun a' ha => ?_)
            simp only [Act.put, List.setIfInBounds_toArray, List.set_cons_succ, List.set_cons_zero] at ha
            subst ha
            refine MixH.one [false, false, false, false, false, false, false, true] 5 7 _ rfl rfl (by kernel_rfl) (by kernel_rfl) (fun K hK => ?_)
            simp only [Mix.pick]
            go_wp2_with fail
            refine Calls.mono (HF4.out wA (bthen z23 hS)) ?_
            rintro e1 wB ⟨rfl, hbB⟩
            have hS2 : Below w23.heap.size w23 wB := bthen hS hbB
            clear hS hbB
            have hS := hS2
            clear hS2
            go_wp2
            refine ⟨rfl, hK _ _ hS ?_⟩
            clear hK K
            refine MixH.takes [false, false, false, false, false, false, false, false, true, true, true, true, true] 0 (by kernel_rfl) (by kernel_rfl) (by decide) (by kernel_rfl) hS (fun K hK => ?_)
            simp only [Mix.pick]
            repeat (go_big_quiet_step (fail))
            refine wpQuiet_nil (hK _ ?_)
            clear hK K
            refine MixH.done (by kernel_rfl) ?_
            obtain ⟨w24, hw24⟩ : ∃ w24, w24 = wB := ⟨_, rfl⟩
            rw [← hw24] at hS ⊢
            have z24 : Below w5.heap.size w5 w24 := bthen z23 hS
            clear hw24 hS
            go_wp2
            rw [← HPAE.out]
            go_meet
            exact z24
          · have kk : ¬ (1 : Int) < (k : Int) := by omega
            go_wp2
            go_meet
            exact z10
        case rest =>
        have z12 : Below w5.heap.size w5 wc := hcut
        obtain ⟨w12, hw12⟩ : ∃ w12, w12 = wc := ⟨_, rfl⟩
        rw [← hw12] at z12 ⊢
        clear hw12 z10
        have QS : Hid _ := stands_l w12 B0 gl cp k E ms (HLA.out w12 z12) HEN.out HML.out pa pc ps (HPA.out w12 z12) HMP.out hn40 (fun e he => by have := (HEB.out e he).1; omega)
        go_wp2_with fail
        refine Calls.mono QS.out ?_
        rintro e1 w13 ⟨rfl, hb13⟩
        have z13 : Below w5.heap.size w5 w13 := bthen z12 hb13
        have bel13 := bthen belR z13
        clear QS hb13 z12
        by_cases hqt : q < tl
        · obtain ⟨t, ht⟩ : ∃ t, ts[q]? = some t := ⟨_, List.getElem?_eq_getElem (by rw [HTL.out]; exact hqt)⟩
          obtain ⟨hb256, tb, tof, hta, htlt, htc⟩ := ListG.at (HTS.out w13 bel13) q t ht
          have t0 : w13.cell? ⟨tb, tof + q * 4, none⟩ = some (.int .i64 t.p) := htc 0 (by decide)
          have t1 : w13.cell? ⟨tb, tof + q * 4 + 1, none⟩ = some (.int .i64 t.q) := htc 1 (by decide)
          have t2 : w13.cell? ⟨tb, tof + q * 4 + 2, none⟩ = some (.int .u8 (t.b : Int)) := htc 2 (by decide)
          have t3 : w13.cell? ⟨tb, tof + q * 4 + 3, none⟩ = some (.bool t.s) := htc 3 (by decide)
          have QT : Hid _ := turned_any w13 B0 gl cp k E ms (HLA.out w13 z13) HEN.out HML.out t.p t.q t.b hb256 t.s hn40 HEB.out
          have hq3 : (q : Int) < (tl : Int) := by omega
          have q0 : (0 : Int) ≤ (q : Int) := by omega
          have q2' : ((q : Int)).toNat = q := by omega
          have HTA : Hid (ta = some ⟨tb, tof, none⟩) := hta
          rw [hta]
          clear ht htc htlt hb256 hta
          unfold tC at QT
          go_wp2_with fail
          refine Calls.mono QT.out ?_
          rintro e1 w14 ⟨rfl, E', hli', hE', hbel', hEB'⟩
          have NX : Hid (Li B0 w14 (lV gl cp k) E' ms ∧ E'.length = k ∧ (∀ e ∈ E', eB e) ∧ Below w.heap.size w w14) := ⟨hli', hE', hEB', bel13.trans (hbel'.mono HWB.out)⟩
          clear QT hli' hE' hbel' hEB' t0 t1 t2 t3 z13 bel13 HLA HPA HPE HEN HEB HMP HPL belR
          have wq : IntKind.i64.wrap ((q : Int) + 1) = (q : Int) + 1 := by rw [IntKind.wrap_i64]; omega
          go_wp2
          rw [← HTA.out]
          go_roundw
          case rel =>
            refine ⟨q + 1, E', ?_, ?_, NX⟩
            · go_num
            · omega
          case measure => simp [intOf]; omega
        · have hq3 : ¬ (q : Int) < (tl : Int) := by omega
          have NX : Hid (Li B0 w13 (lV gl cp k) E ms ∧ E.length = k ∧ (∀ e ∈ E, eB e) ∧ Below w.heap.size w w13) := ⟨HLA.out w13 z13, HEN.out, HEB.out, bel13⟩
          clear z13 bel13 HLA HPA HPE HEN HEB HMP HPL belR
          have wq : IntKind.i64.wrap ((q : Int) + 1) = (q : Int) + 1 := by rw [IntKind.wrap_i64]; omega
          go_wp2
          go_roundw
          case rel =>
            refine ⟨q + 1, E, ?_, ?_, NX⟩
            · go_num
            · omega
          case measure => simp [intOf]; omega
end Go.Proofs.Ytbbhnekdejamiaa
