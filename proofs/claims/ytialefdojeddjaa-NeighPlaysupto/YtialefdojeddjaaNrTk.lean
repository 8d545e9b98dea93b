/-
  Layer 15's reference: Tick.
-/
import Derived.Test.YtialefdojeddjaaNrKy
namespace Go.Proofs.Ytialefdojeddjaa
open Go.RowKit Go.Maps

def RTickP (rc : RC) (R : List RE) (w : World) (r : Ending) (w' : World) : Prop :=
  ∃ rc' va vo, r = .returned (.tuple #[.agg (rcC rc'), va, vo]) ∧ rc'.c = rc.c ∧ RSt rc' (R.filterMap (rtk rc.c)) w' ∧ AL w' w.heap.size va (R.filterMap (rak rc.c)) ∧ IL w' w.heap.size vo (R.flatMap (rlo rc.c)) ∧ Below w.heap.size w w' ∧ ∀ q, RB rc' (R.filterMap (rtk rc.c)) q → RB rc R q ∨ w.heap.size ≤ q
set_option maxHeartbeats 12800000 in
set_option maxRecDepth 100000 in
theorem rtick_any (rc : RC) (R : List RE) (w : World) (h : RSt rc R w) (hl : rc.n ≤ 1024) (h64 : ∀ e ∈ R, e.n.ln.length ≤ 64) (hag : ∀ e ∈ R, 0 ≤ e.n.ag ∧ e.n.ag ≤ 1048576) (htr : ∀ e ∈ R, 0 ≤ e.n.tr) (hc : rc.c.tr ≤ 1000) :
    Calls Try.prog 75 #[.agg (rcC rc)] w fun r w' => RTickP rc R w r w' := by
  have hi := rch_new w rc
  obtain ⟨Y, hY⟩ : ∃ Y, Y = w.alloc (.cells (rcC rc) 87) := ⟨_, rfl⟩
  rw [← hY] at hi
  obtain ⟨B, hB⟩ : ∃ B, B = w.heap.size := ⟨_, rfl⟩
  rw [← hB] at hi
  have s1 : Y.heap.size = B + 1 := by rw [hY, World.size_alloc, hB]
  have b1 : Below w.heap.size w Y := by rw [hY]; exact (Below.refl _ _).alloc (Nat.le_refl _) _
  obtain ⟨Z, hZ⟩ : ∃ Z, Z = Y.alloc (.cells (rcC rcz) 87) := ⟨_, rfl⟩
  have b2 : Below Y.heap.size Y Z := by rw [hZ]; exact (Below.refl _ _).alloc (Nat.le_refl _) _
  have s2 : Z.heap.size = B + 2 := by rw [hZ, World.size_alloc, s1]
  have HZ : Hid (TK w B rc (.slice none 0 0) [] (.slice none 0 0) [] (.slice none 0 0) [] Z) := ⟨hi.below b2, by rw [hZ, ← s1]; exact rch_new Y rcz, bthen b1 b2, EL.nil _ _, AL.nil _ _, World.ownsRow_nil _ _ _ _, by omega⟩
  obtain ⟨CI, hCI⟩ : ∃ C, C = rcC rc := ⟨_, rfl⟩
  rw [← hCI] at hY ⊢
  have HW : Hid (w.alloc (.cells CI 87) = Y ∧ Y.heap.size = B + 1 ∧ Y.alloc (.cells (rcC rcz) 87) = Z) := ⟨hY.symm, s1, hZ.symm⟩
  have HOX : Hid (w.heap.size = B) := hB.symm
  have HRS : Hid (∀ A, Below w.heap.size w A → RSt rc R A) := fun A b => h.below b
  have HLT : Hid (∀ q, RB rc R q → q < B) := fun q hq => by rw [hB]; exact h.lt q hq
  obtain ⟨n, hnn⟩ : ∃ n, n = rc.n := ⟨_, rfl⟩
  have HN : Hid (R.length = n ∧ n ≤ 1024 ∧ n = rc.n ∧ (∀ e ∈ R, e.n.ln.length ≤ 64) ∧ (∀ e ∈ R, 0 ≤ e.n.ag ∧ e.n.ag ≤ 1048576) ∧ (∀ e ∈ R, 0 ≤ e.n.tr) ∧ rc.c.tr ≤ 1000) := ⟨h.len.trans hnn.symm, by omega, hnn, h64, hag, htr, hc⟩
  clear hi hY hB hCI hZ b1 b2 s1 s2 h hl h64 hag htr hc hnn
  go_enter Try.func75, Try.ntmps75
  go_upto_region 1 with (first | (rw [HW.out.1]; refine wpList_alloc_rch rfl rfl ?_; rw [HW.out.2.1, HW.out.2.2]; simp only [Act.put, List.setIfInBounds_toArray, List.set_cons_succ, List.set_cons_zero]))
  rw [HOX.out]
  go_wp2_with fail
  go_loopw [5, 6, 7, 8] (fun lx ax ox ix wr => ∃ (vl va vo : Value) (i : Nat), ix = .int .i64 (i : Int) ∧ i ≤ n ∧ Hid (lx = vl ∧ ax = va ∧ ox = vo) ∧ Hid (TK w B rc vl ((R.take i).filterMap (rtk rc.c)) va ((R.take i).filterMap (rak rc.c)) vo ((R.take i).flatMap (rlo rc.c)) wr)) (fun _ _ _ ix _ => n - (intOf ix).toNat)
  case atStart => exact ⟨_, _, _, 0, rfl, by omega, ⟨rfl, rfl, rfl⟩, HZ⟩
  case round =>
    obtain ⟨vl, va, vo, i, rfl, hi, HEQ, HQ⟩ := hrel
    obtain ⟨rfl, rfl, rfl⟩ := HEQ.out
    clear HEQ HZ HW
    have csl : wr.cell? ⟨B, 5, none⟩ = some (.slice rc.la n rc.lc) := by rw [HQ.out.c.cell 5, HN.out.2.2.1]; rfl
    by_cases hlt : i < n
    · have k0 : (0 : Int) ≤ (i : Int) := by omega
      have k1 : (i : Int) < (n : Int) := by omega
      have k2 : ((i : Int)).toNat = i := by omega
      have wi : IntKind.i64.wrap ((i : Int) + 1) = (i : Int) + 1 := by have := HN.out.2.1; rw [IntKind.wrap_i64]; omega
      obtain ⟨e, he⟩ : ∃ e, R[i]? = some e := ⟨_, List.getElem?_eq_getElem (by rw [HN.out.1]; exact hlt)⟩
      obtain ⟨g, off, hla, hx1, hrg⟩ := (HRS.out wr HQ.out.bel).er.at i e he
      have HRA : Hid (∀ A, Below w.heap.size w A → A.rangeAt g (off + i * 29) (reC e).toList) := fun A hA => by
        obtain ⟨g', off', hla', _, hrg'⟩ := (HRS.out A hA).er.at i e he
        rw [hla] at hla'
        cases hla'
        exact hrg'
      have HSL : Hid (∀ A, RchAt A B rc → A.cell? ⟨B, 5, none⟩ = some (.slice (some ⟨g, off, none⟩) n rc.lc)) := fun A hA => by rw [hA.cell 5, ← hla, HN.out.2.2.1]; rfl
      rw [hla] at csl
      have hem : e ∈ R := List.mem_of_getElem? he
      obtain ⟨LL, hLL⟩ : ∃ LL, LL = (R.take i).filterMap (rtk rc.c) := ⟨_, rfl⟩
      obtain ⟨KK, hKK⟩ : ∃ KK, KK = (R.take i).filterMap (rak rc.c) := ⟨_, rfl⟩
      obtain ⟨OO, hOO⟩ : ∃ OO, OO = (R.take i).flatMap (rlo rc.c) := ⟨_, rfl⟩
      rw [← hLL, ← hKK, ← hOO] at HQ
      have HNX : Hid ((R.take (i + 1)).filterMap (rtk rc.c) = LL ++ (rtk rc.c e).toList ∧ (R.take (i + 1)).filterMap (rak rc.c) = KK ++ (rak rc.c e).toList ∧ (R.take (i + 1)).flatMap (rlo rc.c) = OO ++ rlo rc.c e) := by rw [hLL, hKK, hOO]; exact rtk_snoc he
      have HLN : Hid (LL.length ≤ 1024 ∧ KK.length ≤ 1024 ∧ OO.length ≤ 65536) := by
        have h1 := rtk_len rc.c (R.take i)
        have h2 := rlo_len (c := rc.c) (L := R.take i) (fun a ha => HN.out.2.2.2.1 a (List.mem_of_mem_take ha))
        have h3 : (R.take i).length ≤ i := List.length_take_le _ _
        have h4 := HN.out.2.1
        rw [hLL, hKK, hOO]
        exact ⟨by omega, by omega, by omega⟩
      have HEE : Hid (0 ≤ e.n.ag ∧ e.n.ag ≤ 1048576 ∧ 0 ≤ e.n.tr ∧ e.n.ln.length ≤ 64 ∧ e ∈ R) := ⟨(HN.out.2.2.2.2.1 e hem).1, (HN.out.2.2.2.2.1 e hem).2, HN.out.2.2.2.2.2.1 e hem, HN.out.2.2.2.1 e hem, hem⟩
      have HLI : Hid (i < n) := hlt
      clear he hla hx1 hrg hem hLL hKK hOO hi
      obtain ⟨er, her⟩ : ∃ er : RE, er = ⟨roldN rc.c e.n, e.la, e.lc⟩ := ⟨_, rfl⟩
      have HER : Hid (er = ⟨roldN rc.c e.n, e.la, e.lc⟩) := her
      have QL : Hid (∀ A, Calls Try.prog 97 #[.agg (rcC rc), .agg (reC e)] A fun r w' => r = .returned (.agg (reC er)) ∧ Below A.heap.size A w') := fun A => by rw [her]; exact rolder_any rc e A HEE.out.1 HEE.out.2.1
      clear her
      go_upto_block 1 with fail
      go_cut [5, 6, 7] (fun lx ax ox wx => ∃ (vl va vo : Value), Hid (lx = vl ∧ ax = va ∧ ox = vo) ∧ Hid (TK w B rc vl (LL ++ (rtk rc.c e).toList) va (KK ++ (rak rc.c e).toList) vo (OO ++ rlo rc.c e) wx))
      case first =>
        go_upto_region 7 with fail
        clear csl
        go_cut [9] (fun v wx => ∃ D, v = .pointer (some ⟨D, 0, none⟩) ∧ Hid (TK w B rc u5 LL u6 KK u7 OO wx ∧ RenAt wx D er ∧ B + 2 ≤ D ∧ wr.heap.size ≤ D))
        case first =>
          refine MixH.start (fun A => RchAt A B rc ∧ A.cell? ⟨B, 5, none⟩ = some (.slice (some ⟨g, off, none⟩) n rc.lc) ∧ A.rangeAt g (off + i * 29) (reC e).toList) (by kernel_rfl) ?_
          obtain ⟨w1, hw1⟩ : ∃ w1, w1 = wr.drew := ⟨_, rfl⟩
          have bdr : Below wr.heap.size wr w1 := by rw [hw1]; exact (Below.refl _ _).drew
          have HP : Hid (TK w B rc u5 LL u6 KK u7 OO w1 ∧ Below w1.heap.size w1 w1) := ⟨HQ.out.below bdr, Below.refl _ _⟩
          have HSW : Hid (wr.heap.size ≤ w1.heap.size) := bdr.size
          have HTS : Hid (∀ A, TK w B rc u5 LL u6 KK u7 OO A → RchAt A B rc ∧ A.cell? ⟨B, 5, none⟩ = some (.slice (some ⟨g, off, none⟩) n rc.lc) ∧ A.rangeAt g (off + i * 29) (reC e).toList) := fun A hA => ⟨hA.c, HSL.out A hA.c, HRA.out A hA.bel⟩
          have hS := HTS.out w1 HP.out.1
          rw [← hw1]
          clear hw1 bdr HQ HRA HSL HNX
          refine MixH.take 8 0 _ (.agg (rcC rc)) rfl (by kernel_rfl) (by kernel_rfl) (by kernel_rfl) (by kernel_rfl) (yields_rch (.tmp 1) rfl B 0 rc rfl rfl (fun A hA => RchAt.all hA.1)) hS (fun a' ha => ?_)
          simp only [Act.put, List.setIfInBounds_toArray, List.set_cons_succ, List.set_cons_zero] at ha
          subst ha
          refine MixH.takes [false, true] 7 (by kernel_rfl) (by kernel_rfl) (by decide) (by kernel_rfl) hS (fun K hK => ?_)
          simp only [Mix.pick]
          repeat (go_big_quiet_step (fail))
          refine wpQuiet_nil (hK _ ?_)
          clear hK K
          refine MixH.take 6 2 _ (.slice (some ⟨g, off, none⟩) n rc.lc) rfl (by kernel_rfl) (by kernel_rfl) (by kernel_rfl) (by kernel_rfl) (yields_ents (.tmp 19) rfl ⟨B, 5, none⟩ (.slice (some ⟨g, off, none⟩) n rc.lc) rfl rfl (fun A hA => hA.2.1)) hS (fun a' ha => ?_)
          simp only [Act.put, List.setIfInBounds_toArray, List.set_cons_succ, List.set_cons_zero] at ha
          subst ha
          refine MixH.takes [false, false, false, true] 5 (by kernel_rfl) (by kernel_rfl) (by decide) (by kernel_rfl) hS (fun K hK => ?_)
          simp only [Mix.pick]
          repeat (go_big_quiet_step (fail))
          refine wpQuiet_nil (hK _ ?_)
          clear hK K
          refine MixH.takes [false, false, false, false, true] 4 (by kernel_rfl) (by kernel_rfl) (by decide) (by kernel_rfl) hS (fun K hK => ?_)
          simp only [Mix.pick]
          repeat (go_big_quiet_step (fail))
          refine wpQuiet_nil (hK _ ?_)
          clear hK K
          refine MixH.take 3 5 _ (.agg (reC e)) rfl (by kernel_rfl) (by kernel_rfl) (by kernel_rfl) (by kernel_rfl) (yields_ren (.tmp 22) rfl g (off + i * 29) e rfl rfl (fun A hA => hA.2.2)) hS (fun a' ha => ?_)
          simp only [Act.put, List.setIfInBounds_toArray, List.set_cons_succ, List.set_cons_zero] at ha
          subst ha
          refine MixH.pair [false, false, false, false, false, false, true] [false, false, false, false, false, false, false, true] 2 6 7 _ _ rfl rfl rfl rfl (by kernel_rfl) (by kernel_rfl) (fun K hK => ?_) (fun K hK => ?_)
          · simp only [Mix.pick]
            go_wp2_with fail
            refine Calls.mono (QL.out w1) ?_
            rintro r wC ⟨rfl, bC⟩
            replace HP : Hid (TK w B rc u5 LL u6 KK u7 OO wC ∧ Below w1.heap.size w1 wC) := ⟨HP.out.1.below bC, bthen HP.out.2 bC⟩
            replace hS := HTS.out wC HP.out.1
            clear bC
            go_wp2
            refine ⟨rfl, hK _ _ hS ?_⟩
            clear hK K
            obtain ⟨V, hV⟩ : ∃ V, V = wC.alloc (.cells (reC rez) 163) := ⟨_, rfl⟩
            obtain ⟨D, hD⟩ : ∃ D, D = wC.heap.size := ⟨_, rfl⟩
            have bV : Below wC.heap.size wC V := by rw [hV]; exact (Below.refl _ _).alloc (Nat.le_refl _) _
            have HV : Hid (TK w B rc u5 LL u6 KK u7 OO V ∧ RenAt V D rez ∧ B + 2 ≤ D ∧ wr.heap.size ≤ D) := ⟨HP.out.1.below bV, by rw [hV, hD]; exact ren_new wC rez, by rw [hD]; exact HP.out.1.sz, by rw [hD]; exact Nat.le_trans HSW.out HP.out.2.size⟩
            have HND : Hid ((∀ q, u5.ownBlock = some q → q ≠ D) ∧ (∀ q, u6.ownBlock = some q → q ≠ D) ∧ ∀ q, u7.ownBlock = some q → q ≠ D) := ⟨fun q hq => by have := (HP.out.1.l.cells q hq).2.1; omega, fun q hq => by have := (HP.out.1.a.cells q hq).2.1; omega, fun q hq => by have := (IL.cells HP.out.1.o q hq).2.1; omega⟩
            have HVE : Hid (wC.heap.size = D ∧ wC.alloc (.cells (reC rez) 163) = V) := ⟨hD.symm, hV.symm⟩
            replace hS := HTS.out V HV.out.1
            clear hV hD bV HP
            refine MixH.one [false, false, false, false, false, false, false, true] 1 7 _ rfl rfl (by kernel_rfl) (by kernel_rfl) (fun K hK => ?_)
            simp only [Mix.pick]
            refine wpList_alloc_ren rfl rfl ?_
            rw [HVE.out.1, HVE.out.2]
            simp only [Act.put, List.setIfInBounds_toArray, List.set_cons_succ, List.set_cons_zero]
            go_wp2
            refine ⟨rfl, hK _ _ hS ?_⟩
            clear hK K
            refine MixH.one [false, false, false, false, false, false, false, false, true] 0 8 _ rfl rfl (by kernel_rfl) (by kernel_rfl) (fun K hK => ?_)
            simp only [Mix.pick]
            refine wpList_store_ren (.tmp 9) (.tmp 24) rfl rfl D rez er rfl rfl HV.out.2.1 rfl ?_
            intro wE hE kE
            have HE : Hid (TK w B rc u5 LL u6 KK u7 OO wE ∧ RenAt wE D er ∧ B + 2 ≤ D ∧ wr.heap.size ≤ D) := ⟨HV.out.1.ch HOX.out kE HV.out.2.2.1 HND.out.1 HND.out.2.1 HND.out.2.2, hE, HV.out.2.2⟩
            replace hS := HTS.out wE HE.out.1
            clear hE kE HV HND HVE
            go_wp2
            refine ⟨rfl, hK _ _ hS ?_⟩
            clear hK K hS
            refine MixH.done (by kernel_rfl) ?_
            go_wp2_with fail
            go_meet
            exact ⟨D, rfl, HE⟩
          · simp only [Mix.pick]
            obtain ⟨V, hV⟩ : ∃ V, V = w1.alloc (.cells (reC rez) 163) := ⟨_, rfl⟩
            obtain ⟨D, hD⟩ : ∃ D, D = w1.heap.size := ⟨_, rfl⟩
            have bV : Below w1.heap.size w1 V := by rw [hV]; exact (Below.refl _ _).alloc (Nat.le_refl _) _
            have HV : Hid (TK w B rc u5 LL u6 KK u7 OO V ∧ RenAt V D rez ∧ B + 2 ≤ D ∧ wr.heap.size ≤ D) := ⟨HP.out.1.below bV, by rw [hV, hD]; exact ren_new w1 rez, by rw [hD]; exact HP.out.1.sz, by rw [hD]; exact HSW.out⟩
            have HND : Hid ((∀ q, u5.ownBlock = some q → q ≠ D) ∧ (∀ q, u6.ownBlock = some q → q ≠ D) ∧ ∀ q, u7.ownBlock = some q → q ≠ D) := ⟨fun q hq => by have := (HP.out.1.l.cells q hq).2.1; omega, fun q hq => by have := (HP.out.1.a.cells q hq).2.1; omega, fun q hq => by have := (IL.cells HP.out.1.o q hq).2.1; omega⟩
            have HVE : Hid (w1.heap.size = D ∧ w1.alloc (.cells (reC rez) 163) = V) := ⟨hD.symm, hV.symm⟩
            replace hS := HTS.out V HV.out.1
            clear hV hD bV HP
            refine wpList_alloc_ren rfl rfl ?_
            rw [HVE.out.1, HVE.out.2]
            simp only [Act.put, List.setIfInBounds_toArray, List.set_cons_succ, List.set_cons_zero]
            go_wp2
            refine ⟨rfl, hK _ _ hS ?_⟩
            clear hK K
            refine MixH.one [false, false, false, false, false, false, true] 1 6 _ rfl rfl (by kernel_rfl) (by kernel_rfl) (fun K hK => ?_)
            simp only [Mix.pick]
            go_wp2_with fail
            refine Calls.mono (QL.out V) ?_
            rintro r wC ⟨rfl, bC⟩
            have HC : Hid (TK w B rc u5 LL u6 KK u7 OO wC ∧ RenAt wC D rez ∧ B + 2 ≤ D ∧ wr.heap.size ≤ D) := ⟨HV.out.1.below bC, HV.out.2.1.below bC, HV.out.2.2⟩
            replace hS := HTS.out wC HC.out.1
            clear bC HV HVE
            go_wp2
            refine ⟨rfl, hK _ _ hS ?_⟩
            clear hK K
            refine MixH.one [false, false, false, false, false, false, false, false, true] 0 8 _ rfl rfl (by kernel_rfl) (by kernel_rfl) (fun K hK => ?_)
            simp only [Mix.pick]
            refine wpList_store_ren (.tmp 9) (.tmp 24) rfl rfl D rez er rfl rfl HC.out.2.1 rfl ?_
            intro wE hE kE
            have HE : Hid (TK w B rc u5 LL u6 KK u7 OO wE ∧ RenAt wE D er ∧ B + 2 ≤ D ∧ wr.heap.size ≤ D) := ⟨HC.out.1.ch HOX.out kE HC.out.2.2.1 HND.out.1 HND.out.2.1 HND.out.2.2, hE, HC.out.2.2⟩
            replace hS := HTS.out wE HE.out.1
            clear hE kE HC HND
            go_wp2
            refine ⟨rfl, hK _ _ hS ?_⟩
            clear hK K hS
            refine MixH.done (by kernel_rfl) ?_
            go_wp2_with fail
            go_meet
            exact ⟨D, rfl, HE⟩
        case rest =>
          obtain ⟨D, rfl, H1⟩ := hcut
          have HOLD : Hid (wr.heap.size ≤ D ∧ (∀ q, u5.ownBlock = some q → q ≠ D) ∧ (∀ q, u6.ownBlock = some q → q ≠ D) ∧ ∀ q, u7.ownBlock = some q → q ≠ D) := ⟨H1.out.2.2.2, fun q hq => by have := (HQ.out.l.cells q hq).2.1; have := H1.out.2.2.2; omega, fun q hq => by have := (HQ.out.a.cells q hq).2.1; have := H1.out.2.2.2; omega, fun q hq => by have := (IL.cells HQ.out.o q hq).2.1; have := H1.out.2.2.2; omega⟩
          clear HQ QL HRA HSL
          obtain ⟨st, hst⟩ : ∃ st, st = er.n.st := ⟨_, rfl⟩
          obtain ⟨ag, hag⟩ : ∃ ag, ag = er.n.ag := ⟨_, rfl⟩
          obtain ⟨tr, htr⟩ : ∃ tr, tr = er.n.tr := ⟨_, rfl⟩
          obtain ⟨ev, hev⟩ : ∃ ev, ev = rc.c.ev := ⟨_, rfl⟩
          have c24 : wc.cell? ⟨D, 24, none⟩ = some (.int .i64 st) := by rw [hst]; exact H1.out.2.1.cell 24
          have c25 : wc.cell? ⟨D, 25, none⟩ = some (.int .i64 ag) := by rw [hag]; exact H1.out.2.1.cell 25
          have c26 : wc.cell? ⟨D, 26, none⟩ = some (.int .i64 tr) := by rw [htr]; exact H1.out.2.1.cell 26
          have c2 : wc.cell? ⟨B, 2, none⟩ = some (.int .i64 ev) := by rw [hev]; exact H1.out.1.c.cell 2
          have c3 : wc.cell? ⟨B, 3, none⟩ = some (.int .i64 rc.c.tr) := H1.out.1.c.cell 3
          obtain ⟨du, hdu⟩ : ∃ du, du = dueB rc.c e.n := ⟨_, rfl⟩
          have hdr : (((st == 1 || st == 4)) && ag == ev) = du := by rw [hst, hag, hev, HER.out, hdu]; exact due_rold rc.c e.n
          have HDU : Hid (du = dueB rc.c e.n ∧ tr = er.n.tr) := ⟨hdu, htr⟩
          clear hst hag htr hev hdu
          go_upto_region 8 with fail
          go_cut [10] (fun v wx => v = .bool du ∧ wc = wx)
          case first =>
            cases q1 : (st == 1) with
            | true =>
              rw [q1, Bool.true_or, Bool.true_and] at hdr
              have HDR : Hid ((ag == ev) = du) := hdr
              clear hdr
              go_wp2_with fail
              go_meet
              rw [← HDR.out]
              exact ⟨rfl, rfl⟩
            | false =>
              cases q4 : (st == 4) with
              | true =>
                rw [q1, q4, Bool.false_or, Bool.true_and] at hdr
                have HDR : Hid ((ag == ev) = du) := hdr
                clear hdr
                go_wp2_with fail
                go_meet
                rw [← HDR.out]
                exact ⟨rfl, rfl⟩
              | false =>
                rw [q1, q4, Bool.or_false, Bool.false_and] at hdr
                have HDR : Hid (false = du) := hdr
                clear hdr
                go_wp2_with fail
                go_meet
                rw [← HDR.out]
                exact ⟨rfl, rfl⟩
          case rest =>
            obtain ⟨rfl, rfl⟩ := hcut
            clear hdr c24 c25 c2
            cases du with
            | false =>
              have HS : Hid (rtk rc.c e = some er ∧ rak rc.c e = none ∧ rlo rc.c e = []) := by
                have h1 : dueB rc.c e.n = false := HDU.out.1.symm
                unfold rtk rak rlo
                rw [h1, HER.out]
                exact ⟨rfl, rfl, rfl⟩
              have H2 : Hid (TK w B rc u5 LL u6 KK u7 OO wc ∧ RenAt wc D er) := ⟨H1.out.1, H1.out.2.1⟩
              clear H1 c26 c3
              have bz : Below wc.heap.size wc (wc.alloc (.cells (reC er) 163)) := (Below.refl _ _).alloc (Nat.le_refl _) _
              have HKP : Hid (TK w B rc u5 LL u6 KK u7 OO (wc.alloc (.cells (reC er) 163)) ∧ RenAt (wc.alloc (.cells (reC er) 163)) wc.heap.size er ∧ RenAt wc D er) := ⟨H2.out.1.below bz, ren_new wc er, H2.out.2⟩
              clear bz H2
              go_wp2_with (first | (refine wpList_load_ren (.tmp 9) rfl D er rfl (by exact HKP.out.2.2) rfl ?_) | (refine wpList_bs1e (.tmp 84) rfl er rfl rfl ?_) | (refine wpList_app1e rfl (.tmp 83) (.tmp 85) rfl (B + 2) u5 LL rfl (by exact HKP.out.1.l) wc.heap.size er rfl (by exact HKP.out.2.1) (by have := HLN.out.1; omega) (by exact HKP.out.1.sz) ?_))
              intro v9 w9 h9 g9 o9
              have HME : Hid (TK w B rc v9 (LL ++ [er]) u6 KK u7 OO w9) := HKP.out.1.grewL HOX.out g9 h9
              clear h9 g9 o9 HKP
              go_wp2_with fail
              go_meet
              refine ⟨_, _, _, ⟨rfl, rfl, rfl⟩, ?_⟩
              rw [HS.out.1, HS.out.2.1, HS.out.2.2, Option.toList_none, Option.toList_some, List.append_nil, List.append_nil]
              exact HME
            | true =>
              by_cases htr : tr < rc.c.tr
              · have q5 : decide (tr ≥ rc.c.tr) = false := by rw [decide_eq_false_iff_not]; omega
                have wt : IntKind.i64.wrap (tr + 1) = tr + 1 := by
                  have h1 := HEE.out.2.2.1
                  have h2 := HDU.out.2
                  rw [HER.out, (rold_k rc.c e.n).2.2.2] at h2
                  have h3 := HN.out.2.2.2.2.2.2
                  rw [IntKind.wrap_i64]
                  omega
                obtain ⟨en, hen⟩ : ∃ en : RE, en = ⟨{ er.n with ag := 0, tr := tr + 1 }, er.la, er.lc⟩ := ⟨_, rfl⟩
                obtain ⟨ak, hak⟩ : ∃ ak : AK, ak = ⟨er.n.k, er.n.m, tr + 1⟩ := ⟨_, rfl⟩
                have HS : Hid (rtk rc.c e = some en ∧ rak rc.c e = some ak ∧ rlo rc.c e = []) := by
                  have h1 : dueB rc.c e.n = true := HDU.out.1.symm
                  have h2 : (roldN rc.c e.n).tr < rc.c.tr := by have h9 := HDU.out.2; rw [HER.out] at h9; rw [← show tr = (roldN rc.c e.n).tr from h9]; exact htr
                  have h3 := rold_k rc.c e.n
                  have h4 : tr = (roldN rc.c e.n).tr := by have h9 := HDU.out.2; rw [HER.out] at h9; exact h9
                  unfold rtk rak rlo
                  rw [h1, if_pos rfl, if_pos rfl, if_pos rfl, if_pos h2, if_pos h2, if_pos h2, hen, hak, HER.out, h4]
                  refine ⟨rfl, ?_, rfl⟩
                  show some (AK.mk e.n.k e.n.m _) = some (AK.mk (roldN rc.c e.n).k (roldN rc.c e.n).m _)
                  rw [h3.1, h3.2.1]
                obtain ⟨X, hX⟩ : ∃ X, X = (wc.setCell ⟨D, 26, none⟩ (.int .i64 (tr + 1))).setCell ⟨D, 25, none⟩ (.int .i64 0) := ⟨_, rfl⟩
                have kX : Ch (fun q => q = D) wc X := by rw [hX]; exact ((Ch.refl (fun q => q = D) wc).set _ _ rfl).set _ _ rfl
                have rX : RenAt X D en := by
                  rw [hX, hen]
                  exact RenAt.set (e := ⟨{ er.n with tr := tr + 1 }, er.la, er.lc⟩) (H1.out.2.1.set 26 _ rfl) 25 _ rfl
                have HX : Hid (TK w B rc u5 LL u6 KK u7 OO X ∧ RenAt X D en) := ⟨H1.out.1.ch HOX.out kX H1.out.2.2.1 HOLD.out.2.1 HOLD.out.2.2.1 HOLD.out.2.2.2, rX⟩
                have HXE : Hid ((wc.setCell ⟨D, 26, none⟩ (.int .i64 (tr + 1))).setCell ⟨D, 25, none⟩ (.int .i64 0) = X) := hX.symm
                have d25 : wc.cell? ⟨D, 25, none⟩ = some (.int .i64 er.n.ag) := H1.out.2.1.cell 25
                have f25 := H1.out.2.1.fz 25
                have f26 := H1.out.2.1.fz 26
                have HEN : Hid (en.n.k = ak.k ∧ en.n.m = ak.m ∧ en.n.tr = ak.ty) := by rw [hen, hak]; exact ⟨rfl, rfl, rfl⟩
                clear hX kX rX hen hak htr
                go_upto_region 14 with fail
                rw [HXE.out]
                clear HXE d25 f25 f26 c26 c3 H1
                have e0 : X.cell? ⟨D, 0, none⟩ = some (.int .i64 ak.k.pt) := by rw [← HEN.out.1]; exact HX.out.2.cell 0
                have e26 : X.cell? ⟨D, 26, none⟩ = some (.int .i64 ak.ty) := by rw [← HEN.out.2.2]; exact HX.out.2.cell 26
                have HRI : Hid (X.rangeAt D 1 (ipCells ak.k.V ak.k.x).toList ∧ X.rangeAt D 18 (macC ak.m).toList) := by rw [← HEN.out.1, ← HEN.out.2.1]; exact ⟨HX.out.2.ipR, HX.out.2.macR⟩
                have bz : Below X.heap.size X (X.alloc (.cells (akC ak) 114)) := (Below.refl _ _).alloc (Nat.le_refl _) _
                have HKA : Hid (TK w B rc u5 LL u6 KK u7 OO (X.alloc (.cells (akC ak) 114)) ∧ AskAt (X.alloc (.cells (akC ak) 114)) X.heap.size ak ∧ RenAt (X.alloc (.cells (akC ak) 114)) D en) := ⟨HX.out.1.below bz, ask_new X ak, HX.out.2.below bz⟩
                clear bz HX
                go_upto_region 15 with (first | (refine wpList_mid_ipr (.tmp 72) rfl D 1 ak.k.V ak.k.x rfl (by exact HRI.out.1) rfl ?_) | (refine wpList_mid_mac (.tmp 75) rfl D 18 ak.m rfl (by exact HRI.out.2) rfl ?_) | (refine wpList_build_ak (.tmp 70) (.tmp 73) (.tmp 76) (.tmp 79) rfl ak rfl rfl rfl rfl rfl ?_) | (refine wpList_bs1a (.tmp 80) rfl ak rfl rfl ?_) | (refine wpList_app1a rfl (.tmp 67) (.tmp 81) rfl (B + 2) u6 KK rfl (by exact HKA.out.1.a) X.heap.size ak rfl (by exact HKA.out.2.1) (by have := HLN.out.2.1; omega) (by exact HKA.out.1.sz) ?_))
                intro v8 w8 h8 g8 o8
                have H8 : Hid (TK w B rc u5 LL v8 (KK ++ [ak]) u7 OO w8 ∧ RenAt w8 D en) := ⟨HKA.out.1.grewA HOX.out g8 h8, ren_grown g8 HKA.out.2.2 (fun q hq => (HKA.out.1.a.cells q hq).2.2) (by decide)⟩
                clear h8 g8 o8 HKA HRI e0 e26
                have bz : Below w8.heap.size w8 (w8.alloc (.cells (reC en) 163)) := (Below.refl _ _).alloc (Nat.le_refl _) _
                have HKP : Hid (TK w B rc u5 LL v8 (KK ++ [ak]) u7 OO (w8.alloc (.cells (reC en) 163)) ∧ RenAt (w8.alloc (.cells (reC en) 163)) w8.heap.size en ∧ RenAt w8 D en) := ⟨H8.out.1.below bz, ren_new w8 en, H8.out.2⟩
                clear bz H8
                go_wp2_with (first | (refine wpList_load_ren (.tmp 9) rfl D en rfl (by exact HKP.out.2.2) rfl ?_) | (refine wpList_bs1e (.tmp 84) rfl en rfl rfl ?_) | (refine wpList_app1e rfl (.tmp 83) (.tmp 85) rfl (B + 2) u5 LL rfl (by exact HKP.out.1.l) w8.heap.size en rfl (by exact HKP.out.2.1) (by have := HLN.out.1; omega) (by exact HKP.out.1.sz) ?_))
                intro v9 w9 h9 g9 o9
                have HME : Hid (TK w B rc v9 (LL ++ [en]) v8 (KK ++ [ak]) u7 OO w9) := HKP.out.1.grewL HOX.out g9 h9
                clear h9 g9 o9 HKP
                go_wp2_with fail
                go_meet
                refine ⟨_, _, _, ⟨rfl, rfl, rfl⟩, ?_⟩
                rw [HS.out.1, HS.out.2.1, HS.out.2.2, Option.toList_some, Option.toList_some, List.append_nil]
                exact HME
              · have q5 : decide (tr ≥ rc.c.tr) = true := by rw [decide_eq_true_eq]; omega
                have HS : Hid (rtk rc.c e = none ∧ rak rc.c e = none ∧ rlo rc.c e = e.n.ln) := by
                  have h1 : dueB rc.c e.n = true := HDU.out.1.symm
                  have h2 : ¬ (roldN rc.c e.n).tr < rc.c.tr := by have h9 := HDU.out.2; rw [HER.out] at h9; rw [← show tr = (roldN rc.c e.n).tr from h9]; exact htr
                  unfold rtk rak rlo
                  rw [h1, if_pos rfl, if_pos rfl, if_pos rfl, if_neg h2, if_neg h2, if_neg h2]
                  exact ⟨rfl, rfl, rfl⟩
                obtain ⟨nl, hnl⟩ : ∃ nl, nl = e.n.ln.length := ⟨_, rfl⟩
                have HNL : Hid (e.n.ln.length = nl ∧ nl ≤ 64) := ⟨hnl.symm, by rw [hnl]; exact HEE.out.2.2.2.1⟩
                have c28 : wc.cell? ⟨D, 28, none⟩ = some (.slice e.la nl e.lc) := by
                  have h9 := H1.out.2.1.cell 28
                  rw [h9, HER.out, hnl, ← (rold_k rc.c e.n).2.2.1]
                  rfl
                have HSG : Hid (Seg .i64 wc e.la e.n.ln) := (HRS.out wc H1.out.1.bel).its e HEE.out.2.2.2.2
                clear htr hnl
                go_wp2_with (first | (refine wpList_appi rfl (.tmp 54) (.tmp 56) rfl (B + 2) u7 OO rfl H1.out.1.o e.la nl e.lc e.n.ln rfl HNL.out.1 HSG.out (by have := HLN.out.2.2; omega) (by have := HNL.out.2; omega) H1.out.1.sz ?_))
                intro v9 w9 h9 g9 o9
                have HME : Hid (TK w B rc u5 LL u6 KK v9 (OO ++ e.n.ln) w9) := H1.out.1.grewO HOX.out g9 h9
                clear h9 g9 o9 H1
                go_wp2_with fail
                go_meet
                refine ⟨_, _, _, ⟨rfl, rfl, rfl⟩, ?_⟩
                rw [HS.out.1, HS.out.2.1, HS.out.2.2, Option.toList_none, Option.toList_none, List.append_nil, List.append_nil]
                exact HME
      case rest =>
        obtain ⟨vl, va, vo, HEQ, HR⟩ := hcut
        obtain ⟨rfl, rfl, rfl⟩ := HEQ.out
        clear HEQ HQ csl
        rw [← HNX.out.1, ← HNX.out.2.1, ← HNX.out.2.2] at HR
        go_wp2_with fail
        go_roundw
        case rel => exact ⟨_, _, _, i + 1, by first | rfl | go_num, by have := HLI.out; omega, ⟨rfl, rfl, rfl⟩, HR⟩
        case measure => have := HLI.out; simp [intOf]; omega
    · have hni : ¬ ((i : Int) < (n : Int)) := by omega
      have HTK : Hid (R.take i = R) := List.take_of_length_le (by have := HN.out.1; omega)
      rw [HTK.out] at HQ
      obtain ⟨RR, hRR⟩ : ∃ RR, RR = R.filterMap (rtk rc.c) := ⟨_, rfl⟩
      rw [← hRR] at HQ
      obtain ⟨va, vc, hv, hv1, hv2, hv3⟩ := HQ.out.l.cap
      obtain ⟨nr, hnr⟩ : ∃ nr, nr = RR.length := ⟨_, rfl⟩
      rw [← hnr] at hv
      subst hv
      have hits : ∀ y ∈ RR, ∃ r ∈ R, y.la = r.la ∧ y.n.ln = r.n.ln := fun y hy => by
        rw [hRR] at hy
        obtain ⟨r, hr, h1⟩ := List.mem_filterMap.1 hy
        exact ⟨r, hr, rtk_la h1⟩
      obtain ⟨hRS, hva⟩ := RSt.made rc.c HQ.out.l hnr (fun y hy => by obtain ⟨r, hr, h1, h2⟩ := hits y hy; rw [h1, h2]; exact (HRS.out wr HQ.out.bel).its r hr) (fun y hy q off hq => by obtain ⟨r, hr, h1, h2⟩ := hits y hy; rw [h1] at hq; exact (HRS.out wr HQ.out.bel).itl r hr q off hq)
      obtain ⟨rn, hrn⟩ : ∃ rn : RC, rn = ⟨rc.c, va, nr, vc⟩ := ⟨_, rfl⟩
      rw [← hrn] at hRS
      have HRB : Hid (∀ q, RB rn RR q → RB rc R q ∨ B + 2 ≤ q) := by
        rintro q (⟨off, hq⟩ | ⟨y, hy, off, hq⟩)
        · rw [hrn] at hq
          exact .inr (hva q off hq)
        · obtain ⟨r, hr, h1, _⟩ := hits y hy
          rw [h1] at hq
          exact .inl (.inr ⟨r, hr, off, hq⟩)
      obtain ⟨X, hX⟩ : ∃ X, X = wr.setCell ⟨B, 5, none⟩ (.slice va nr vc) := ⟨_, rfl⟩
      have kX : Ch (fun q => q = B) wr X := by rw [hX]; exact (Ch.refl (fun q => q = B) wr).set _ _ rfl
      have hnb : ∀ q, RB rn RR q → q ≠ B ∧ q ≠ B + 1 := fun q hq => by
        rcases HRB.out q hq with g | g
        · have := HLT.out q g; omega
        · omega
      have HX : Hid (RchAt X B rn ∧ RchAt X (B + 1) rcz ∧ Below w.heap.size w X ∧ RSt rn RR X ∧ AL X (B + 2) u6 (R.filterMap (rak rc.c)) ∧ IL X (B + 2) u7 (R.flatMap (rlo rc.c))) := ⟨by rw [hX, hrn]; exact HQ.out.c.setl va nr vc, HQ.out.r.ch kX (by omega), HQ.out.bel.trans (kX.below (fun q e => by have e' : q = B := e; have := HOX.out; omega) HQ.out.bel.size), hRS.ch kX (fun q hq e => (hnb q hq).1 e), HQ.out.a.ch kX (fun q hq e => by have e' : q = B := e; have := (HQ.out.a.cells q hq).1; omega), IL.ch HQ.out.o kX (fun q hq e => by have e' : q = B := e; have := (IL.cells HQ.out.o q hq).1; omega)⟩
      have HXE : Hid (wr.setCell ⟨B, 5, none⟩ (.slice va nr vc) = X) := hX.symm
      have HNB : Hid (∀ q, RB rn RR q → q ≠ B + 1) := fun q hq => (hnb q hq).2
      have HRN : Hid (rn.c = rc.c ∧ RR = R.filterMap (rtk rc.c)) := ⟨by rw [hrn], hRR⟩
      have f5 := HQ.out.c.fz 5
      clear hX kX hnb hRS hva hits hv1 hv2 hv3 hnr hRR hrn HQ
      go_upto_region 17 with fail
      rw [HXE.out]
      clear HXE f5 csl
      go_wp2_with (first | (refine wpList_load_rch (.tmp 1) rfl B rn rfl HX.out.1 rfl ?_) | (refine wpList_store_rch (.tmp 2) (.tmp 89) rfl rfl (B + 1) rcz rn rfl rfl HX.out.2.1 rfl ?_))
      intro wE hE kE
      have HE : Hid (RchAt wE (B + 1) rn ∧ Below w.heap.size w wE ∧ RSt rn RR wE ∧ AL wE (B + 2) u6 (R.filterMap (rak rc.c)) ∧ IL wE (B + 2) u7 (R.flatMap (rlo rc.c))) := ⟨hE, HX.out.2.2.1.trans (kE.below (fun q e => by have e' : q = B + 1 := e; have := HOX.out; omega) HX.out.2.2.1.size), HX.out.2.2.2.1.ch kE (fun q hq e => HNB.out q hq e), HX.out.2.2.2.2.1.ch kE (fun q hq e => by have e' : q = B + 1 := e; have := (HX.out.2.2.2.2.1.cells q hq).1; omega), IL.ch HX.out.2.2.2.2.2 kE (fun q hq e => by have e' : q = B + 1 := e; have := (IL.cells HX.out.2.2.2.2.2 q hq).1; omega)⟩
      clear hE kE HX
      go_wp2_with fail
      refine bodyPost_ret (results_learn rfl _ _ (B + 1) _ rfl HE.out.1) rfl ?_
      have hb := HOX.out
      refine ⟨rn, u6, u7, rfl, HRN.out.1, ?_, HE.out.2.2.2.1.mono (by omega), ?_, HE.out.2.1, ?_⟩
      · rw [← HRN.out.2]; exact HE.out.2.2.1
      · exact ⟨HE.out.2.2.2.2.1, HE.out.2.2.2.2.2.imp id (fun ⟨g, cap, cur, e9, h9, r9⟩ => ⟨g, cap, cur, e9, by omega, r9⟩)⟩
      · rw [← HRN.out.2]; exact fun q hq => (HRB.out q hq).imp id (fun g => by omega)
end Go.Proofs.Ytialefdojeddjaa
