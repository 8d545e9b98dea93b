/-
  Layer 4: reader.group.
-/
import Derived.Test.YtfeabifjnihooaaDoorAdX3
import Derived.Test.YtfeabifjnihooaaDoorMixJ
namespace Go.Proofs.YtfeabifjnihooaaDoor
open Go.RowKit Go.Maps

/-- what group leaves -/
def GrR (w : World) (R G : Nat) (s : ByteArray) (X : SX) (r : Ending) (w' : World) : Prop :=
  r = .returned (.int .i64 ((grp s X).1.er : Nat)) ∧ ((grp s X).1.er = 0 → RG w w' R G s (grp s X).1) ∧ ((grp s X).1.er ≠ 0 → RdAt w' R s (grp s X).1.pl) ∧ Ch (fun k => k = R ∨ k = G) w w'
theorem GrR.er {w : World} {R G : Nat} {s : ByteArray} {X : SX} {r : Ending} {w' : World} {e a : Nat} (h : grp s X = (X.fail e a, true)) (hX : X.er = 0) (he : e ≠ 0) (hr : r = .returned (.int .i64 (e : Nat))) (hrd : RdAt w' R s a) (c : Ch (fun k => k = R ∨ k = G) w w') : GrR w R G s X r w' := by
  unfold GrR
  rw [h, SX.fail_at hX]
  exact ⟨hr, fun q => absurd q he, fun _ => hrd, c⟩
theorem GrR.ok {w : World} {R G : Nat} {s : ByteArray} {X Y : SX} {b : Bool} {r : Ending} {w' : World} (h : grp s X = (Y, b)) (hY : Y.er = 0) (hr : r = .returned (.int .i64 0)) (k : RG w w' R G s Y) : GrR w R G s X r w' := by
  unfold GrR
  rw [h]
  exact ⟨by rw [hr, hY]; rfl, fun _ => k, fun q => absurd hY q, k.2.2⟩
/-- the reader, the count, and nothing else written but the two blocks -/
def RN (w A : World) (R G : Nat) (s : ByteArray) (q n : Nat) : Prop := RdAt A R s q ∧ A.cell? ⟨G, 16, none⟩ = some (.int .i64 (n : Nat)) ∧ Ch (fun k => k = R ∨ k = G) w A
theorem RN.drew {w A : World} {R G : Nat} {s : ByteArray} {q n : Nat} (h : RN w A R G s q n) : RN w A.drew R G s q n := ⟨rd_no h.1 (Ch.refl _ _).drew, h.2.1, h.2.2.drew⟩
theorem RN.set {w A : World} {R G : Nat} {s : ByteArray} {q n : Nat} {C : Array Value} {t : TypeId} (h : RN w A R G s q n) (hne : G ≠ R) (hb : A.heap[G]? = some (.cells C t (0, 0))) (i : Nat) (hi : i ≠ 16) (v : Value) : RN w (A.setCell ⟨G, i, none⟩ v) R G s q n := by
  refine ⟨h.1.ch ((Ch.refl (fun k => k = G) A).set ⟨G, i, none⟩ v rfl) (fun e => hne e.symm), ?_, h.2.2.set ⟨G, i, none⟩ v (.inr rfl)⟩
  have k := heap_setCell_same A G i _ _ v hb
  have e := h.2.1
  rw [show A.cell? ⟨G, 16, none⟩ = C[16]? by simp [World.cell?, hb]] at e
  rw [show (A.setCell ⟨G, i, none⟩ v).cell? ⟨G, 16, none⟩ = (C.setIfInBounds i v)[16]? by simp [World.cell?, k], Array.getElem?_setIfInBounds_ne hi]
  exact e
theorem RG.rn {w A : World} {R G : Nat} {s : ByteArray} {X : SX} (h : RG w A R G s X) : RN w A R G s X.p X.g.length := ⟨h.1, h.2.1.n, h.2.2⟩
theorem GsAt.drew {w : World} {G : Nat} {X : SX} (h : GsAt w G X) : GsAt w.drew G X := h.ch (Ch.refl (fun _ => False) w).drew (fun h => h)
set_option maxHeartbeats 4000000 in
set_option maxRecDepth 100000 in
theorem group_any (R G : Nat) (s : ByteArray) (X : SX) (w : World) (h1 : RdAt w R s X.p) (h2 : GsAt w G X) (hne : G ≠ R) (hs : s.size ≤ 1000) (ho : SxOk s X) (hh : SxHd X) (he : X.er = 0) : Calls Tryd.prog 41 #[.pointer (some ⟨R, 0, none⟩), .pointer (some ⟨G, 0, none⟩)] w fun r w' => GrR w R G s X r w' := by
  have H : Hid (RG w w R G s X) := RG.start h1 h2
  have HNE : Hid (G ≠ R) := hne
  have HP : Hid (s.size ≤ 1000) := hs
  have HOK : Hid (SxOk s X) := ho
  have HHD : Hid (SxHd X) := hh
  have HX0 : Hid (X.er = 0) := he
  have c1 := h1.c1
  obtain ⟨q, hq⟩ : ∃ q, scP s hxB X.p = q := ⟨_, rfl⟩
  have HQ : Hid (scP s hxB X.p = q ∧ scP s (dgF 16) X.p = q) := ⟨hq, by rw [dgF_hex]; exact hq⟩
  have HQB : Hid (X.p ≤ q ∧ q ≤ s.size) := ⟨by rw [← hq]; exact scP_ge _ _ _, by rw [← hq]; exact scP_le ho.p⟩
  have HHX : Hid (∀ i, X.p ≤ i → i < q → hxB (sB s i) = true) := fun i h1 h2 => scP_all h1 (by rw [hq]; exact h2)
  obtain ⟨n, hn⟩ : ∃ n, n = X.g.length := ⟨_, rfl⟩
  obtain ⟨b, hb⟩ : ∃ b, b = decide (0 ≤ X.gap) := ⟨_, rfl⟩
  have HNB : Hid (n = X.g.length ∧ b = decide (0 ≤ X.gap)) := ⟨hn, hb⟩
  have HN8 : Hid (n ≤ 8) := by show _ ≤ _; rw [hn]; exact ho.l
  clear h1 h2 hne hs ho hh he hq hn hb
  go_enter Tryd.func41, Tryd.ntmps41
  go_wp2_with fail
  refine (digits_any R s X.p 16 w H.out.1 HOK.out.p HP.out).mono ?_
  rintro e w1 ⟨rfl, hn⟩
  rw [HQ.out.2] at hn
  have H1 : Hid (RG w w1 R G s { X with p := q }) := H.out.rd HNE.out hn
  clear hn c1
  by_cases hqp : q = X.p
  · rw [dgR_no (HQ.out.2.trans hqp)]
    have HZ : Hid (grp s X = (X.fail (hrE s X.p).1 (hrE s X.p).2, true)) := grp_none HQ.out.1 hqp
    obtain ⟨er, her⟩ : ∃ er : Nat, er = (hrE s X.p).1 := ⟨_, rfl⟩
    have HER : Hid ((hrE s X.p).1 = er ∧ er ≠ 0 ∧ (hrE s X.p).2 = q) := ⟨her.symm, by rw [her]; exact (hrE_ne s X.p).1, by rw [hqp]; have := HOK.out.p; unfold hrE; split <;> simp <;> omega⟩
    have e1 : (((er : Nat) : Int) != 0) = true := by rw [her]; unfold hrE; split <;> rfl
    rw [← her]
    clear hqp her
    go_wp2
    (try simp only [Exit.inBlock, Exit.then])
    go_ret
    exact GrR.er (e := er) (a := q) (by rw [HZ.out, HER.out.1, HER.out.2.2]) HX0.out HER.out.2.1 rfl H1.out.1 H1.out.2.2
  · have HQN : Hid (q ≠ X.p) := hqp
    rw [dgR_yes HQ.out.2 hqp]
    obtain ⟨d, hd⟩ : ∃ d, d = cutB s X.p q := ⟨_, rfl⟩
    have HD : Hid (d = cutB s X.p q ∧ d.size = q - X.p) := ⟨hd, by rw [hd]; exact cutB_size HQB.out.1 HQB.out.2⟩
    rw [← hd]
    clear hqp hd
    go_wp2_with fail
    refine (stands_any R s ⟨#[46]⟩ q w1 H1.out.1 HQB.out.2).mono ?_
    rintro e w2 ⟨rfl, hn⟩
    have H2 : Hid (RG w w2 R G s { X with p := q }) := H1.out.no hn
    obtain ⟨bS, hbS⟩ : ∃ bS, (decide (q < s.size) && sB s q == 46) = bS := ⟨_, rfl⟩
    have HSS : Hid (stB s q ⟨#[46]⟩ = bS) := by show _ = _; rw [stB_one HQB.out.2]; exact hbS
    have HTL : Hid (tlB s X q = (bS && (decide (0 < n) || b))) := by show _ = _; rw [tl_eq HHD.out, hbS, HNB.out.1, HNB.out.2]
    have k16 : w2.cell? ⟨G, 16, none⟩ = some (.int .i64 (n : Nat)) := by rw [HNB.out.1]; exact H2.out.2.1.n
    have k17 : w2.cell? ⟨G, 17, none⟩ = some (.bool b) := by rw [HNB.out.2]; exact H2.out.2.1.b
    rw [HSS.out]
    clear hn hbS
    cases bS with
    | false =>
      have HT : Hid (tlB s X q = false) := by show _ = _; rw [HTL.out]; rfl
      go_upto_region 6 with fail
      obtain ⟨m, hm⟩ : ∃ m, m = rmN X := ⟨_, rfl⟩
      have HM : Hid (m = rmN X) := hm
      have HM8 : Hid (m ≤ 8) := by show _ ≤ _; rw [hm]; exact rmN_le X
      clear hm
      have x6 : IntKind.i64.wrap ((n : Int) + 1) = (n : Int) + 1 := i64_s _ (by omega) (by have := HN8.out; omega)
      refine MixH.start (fun A => RG w A R G s { X with p := q }) (by kernel_rfl) ?_
      obtain ⟨wA, hwA⟩ : ∃ W_, W_ = w2.drew := ⟨_, rfl⟩
      have bdr : Below w2.heap.size w2 wA := by rw [hwA]; exact (Below.refl _ _).drew
      have hS : RG w wA R G s { X with p := q } := H2.out.no (Ch.ofBelow bdr)
      rw [← hwA]
      clear hwA bdr
      refine MixH.takes [true, true, true, false, true, false, false, true] 5 (by kernel_rfl) (by kernel_rfl) (by decide) (by kernel_rfl) hS (fun K hK => ?_)
      simp only [Mix.pick]
      repeat (go_big_quiet_step (fail))
      refine wpQuiet_nil (hK _ ?_)
      clear hK K
      refine MixH.take 4 3 _ (.int .i64 (n : Nat)) rfl (by kernel_rfl) (by kernel_rfl) (by kernel_rfl) (by kernel_rfl) (yields_int (.tmp 40) rfl ⟨G, 16, none⟩ (.int .i64 (n : Nat)) rfl rfl (fun A hA => by rw [HNB.out.1]; exact hA.2.1.n)) hS (fun a' ha => ?_)
      simp only [Act.put, List.setIfInBounds_toArray, List.set_cons_succ, List.set_cons_zero] at ha
      subst ha
      refine MixH.one [false, false, false, false, false, true] 3 5 _ rfl rfl (by kernel_rfl) (by kernel_rfl) (fun K hK => ?_)
      simp only [Mix.pick]
      go_wp2_with fail
      refine Calls.mono (width_any false wA) ?_
      rintro e wz ⟨rfl, rfl⟩
      rw [if_neg (by decide)]
      go_wp2_with fail
      refine ⟨rfl, hK _ _ hS ?_⟩
      clear hK K
      refine MixH.takes [false, false, false, false, false, false, true] 2 (by kernel_rfl) (by kernel_rfl) (by decide) (by kernel_rfl) hS (fun K hK => ?_)
      simp only [Mix.pick]
      repeat (go_big_quiet_step (fail))
      refine wpQuiet_nil (hK _ ?_)
      clear hK K
      refine MixH.one [false, false, false, false, false, false, false, false, true] 1 8 _ rfl rfl (by kernel_rfl) (by kernel_rfl) (fun K hK => ?_)
      simp only [Mix.pick]
      go_wp2_with fail
      refine Calls.mono (most_any G { X with p := q } wA hS.2.1) ?_
      rintro e wz ⟨rfl, rfl⟩
      rw [show rmN { X with p := q } = m from HM.out.symm]
      go_wp2_with fail
      refine ⟨rfl, hK _ _ hS ?_⟩
      clear hK K
      refine MixH.takes [false, false, false, false, false, false, false, false, false, true] 0 (by kernel_rfl) (by kernel_rfl) (by decide) (by kernel_rfl) hS (fun K hK => ?_)
      simp only [Mix.pick]
      repeat (go_big_quiet_step (fail))
      refine wpQuiet_nil (hK _ ?_)
      clear hK K
      refine MixH.done (by kernel_rfl) ?_
      have H6 : Hid (RG w wA R G s { X with p := q }) := hS
      clear hS
      by_cases hm : m < n + 1
      · have m1 : decide ((m : Int) < (n : Int) + 1) = true := decide_eq_true (by omega)
        have m2 : (m : Int) < (n : Int) + 1 := by omega
        have HZ : Hid (grp s X = (X.fail 44 X.p, true)) := grp_many HQ.out.1 HQN.out false HT.out (by rw [← HM.out, ← HNB.out.1]; exact hm)
        clear hm
        go_wp2_with fail
        refine (refuse_any R s q X.p 44 wA H6.out.1).mono ?_
        rintro e w3 ⟨rfl, k1, k2⟩
        have H7 : Hid (RdAt w3 R s X.p ∧ Ch (fun k => k = R ∨ k = G) w w3) := ⟨k1, H6.out.2.2.trans k2 (fun _ _ h => .inl h)⟩
        clear k1 k2
        go_wp2
        (try simp only [Exit.inBlock, Exit.then])
        go_ret
        exact GrR.er HZ.out HX0.out (by decide) rfl H7.out.1 H7.out.2
      · have m1 : decide ((m : Int) < (n : Int) + 1) = false := decide_eq_false (by omega)
        have m2 : ¬ (m : Int) < (n : Int) + 1 := by omega
        have HMN : Hid (¬ rmN X < X.g.length + 1 ∧ n + 1 ≤ 8) := ⟨by rw [← HM.out, ← HNB.out.1]; exact hm, by have := HM8.out; omega⟩
        clear hm
        by_cases h4 : 4 < d.size
        · have p3 : decide ((4 : Int) < (d.size : Int)) = true := decide_eq_true (by omega)
          have p4 : decide (4 < d.size) = true := decide_eq_true h4
          have HZ : Hid (grp s X = (X.fail 43 X.p, true)) := grp_long HQ.out.1 HQN.out HT.out HMN.out.1 (by rw [← HD.out.2]; exact h4)
          clear h4
          go_wp2_with fail
          refine (refuse_any R s q X.p 43 wA H6.out.1).mono ?_
          rintro e w3 ⟨rfl, k1, k2⟩
          have H7 : Hid (RdAt w3 R s X.p ∧ Ch (fun k => k = R ∨ k = G) w w3) := ⟨k1, H6.out.2.2.trans k2 (fun _ _ h => .inl h)⟩
          clear k1 k2
          go_wp2
          (try simp only [Exit.inBlock, Exit.then])
          go_ret
          exact GrR.er HZ.out HX0.out (by decide) rfl H7.out.1 H7.out.2
        · have p3 : decide ((4 : Int) < (d.size : Int)) = false := decide_eq_false (by omega)
          have p4 : decide (4 < d.size) = false := decide_eq_false h4
          obtain ⟨v, hv⟩ : ∃ v, vlN d 16 d.size = v := ⟨_, rfl⟩
          have HV : Hid (vlN d 16 d.size = v ∧ v = hxN s X.p (q - X.p) ∧ d.size ≤ 4) := ⟨hv, by rw [← hv, HD.out.2, HD.out.1]; exact vlN_hx HQB.out.2 HHX.out _ (Nat.le_refl _), by omega⟩
          have hv6 : v < 65536 := by rw [HV.out.2.1]; exact hxN_small (by rw [← HD.out.2]; exact HV.out.2.2)
          have HV6 : Hid (v < 65536) := hv6
          have HZ : Hid (grp s X = ({ X with g := X.g ++ [v], p := q }, q == s.size)) := by
            show _ = _
            rw [HV.out.2.1]
            exact grp_one HQ.out.1 HQN.out HT.out HMN.out.1 (by rw [← HD.out.2]; exact h4)
          obtain ⟨k2, hk2⟩ : ∃ k2, k2 = 2 * n := ⟨_, rfl⟩
          have HK2 : Hid (k2 = 2 * n) := hk2
          have h7 := HMN.out.2
          have x7 : IntKind.i64.wrap (2 * (n : Int)) = (k2 : Int) := by rw [i64_s _ (by omega) (by omega)]; omega
          have x8 : IntKind.i64.wrap ((k2 : Int) + 1) = (k2 : Int) + 1 := i64_s _ (by omega) (by omega)
          have b1 : (k2 : Int) < 16 := by omega
          have b2 : (k2 : Int) + 1 < 16 := by omega
          have b3 : (0 : Int) ≤ (k2 : Int) := by omega
          have b4 : (0 : Int) ≤ (k2 : Int) + 1 := by omega
          clear h4 hv hv6 hk2 h7 k16 k17
          go_wp2_with fail
          refine (value_any d 16 wA HV.out.2.2 (by decide)).mono ?_
          rintro e wz ⟨rfl, rfl⟩
          rw [HV.out.1]
          go_upto_region 16 with fail
          refine MixH.start (fun A => RN w A R G s q n) (by kernel_rfl) ?_
          obtain ⟨wB, hwA⟩ : ∃ W_, W_ = wA.drew := ⟨_, rfl⟩
          have bdr : Below wA.heap.size wA wB := by rw [hwA]; exact (Below.refl _ _).drew
          have hS : RN w wB R G s q n := by rw [HNB.out.1]; exact (H6.out.no (Ch.ofBelow bdr)).rn
          have HG1 : Hid (GsAt wB G { X with p := q }) := H6.out.2.1.below bdr
          rw [← hwA]
          clear hwA bdr
          refine MixH.takes [true, true, true, true, false, false, true, true, true, true, false, false, false, true, true, true, true, true, true, true, false, false, true, true] 9 (by kernel_rfl) (by kernel_rfl) (by decide) (by kernel_rfl) hS (fun K hK => ?_)
          simp only [Mix.pick]
          repeat (go_big_quiet_step (fail))
          refine wpQuiet_nil (hK _ ?_)
          clear hK K
          refine MixH.take 8 4 _ (.int .i64 (n : Nat)) rfl (by kernel_rfl) (by kernel_rfl) (by kernel_rfl) (by kernel_rfl) (yields_int (.tmp 90) rfl ⟨G, 16, none⟩ (.int .i64 (n : Nat)) rfl rfl (fun A hA => hA.2.1)) hS (fun a' ha => ?_)
          simp only [Act.put, List.setIfInBounds_toArray, List.set_cons_succ, List.set_cons_zero] at ha
          subst ha
          refine MixH.takes [false, false, false, false, false, true] 7 (by kernel_rfl) (by kernel_rfl) (by decide) (by kernel_rfl) hS (fun K hK => ?_)
          simp only [Mix.pick]
          repeat (go_big_quiet_step (fail))
          refine wpQuiet_nil (hK _ ?_)
          clear hK K
          refine MixH.take 6 10 _ (.int .i64 (n : Nat)) rfl (by kernel_rfl) (by kernel_rfl) (by kernel_rfl) (by kernel_rfl) (yields_int (.tmp 96) rfl ⟨G, 16, none⟩ (.int .i64 (n : Nat)) rfl rfl (fun A hA => hA.2.1)) hS (fun a' ha => ?_)
          simp only [Act.put, List.setIfInBounds_toArray, List.set_cons_succ, List.set_cons_zero] at ha
          subst ha
          refine MixH.takes [false, false, false, false, false, false, false, false, false, false, false, true, true, false, false, false, false, false, false, false, true] 3 (by kernel_rfl) (by kernel_rfl) (by decide) (by kernel_rfl) hS (fun K hK => ?_)
          simp only [Mix.pick]
          repeat (go_big_quiet_step (fail))
          refine wpQuiet_nil (hK _ ?_)
          clear hK K
          refine MixH.one [false, false, false, false, false, false, false, false, false, false, false, false, false, false, false, false, false, false, false, false, false, true] 2 21 _ rfl rfl (by kernel_rfl) (by kernel_rfl) (fun K hK => ?_)
          simp only [Mix.pick]
          have kc : wB.cell? ⟨G, k2, none⟩ = some (.int .u8 (gb X.g k2 : Nat)) := (HG1.out.cell k2).trans (gsC_byte _ k2 (by omega))
          have kf : wB.frozen? ⟨G, k2, none⟩ = false := HG1.out.fz k2
          go_wp2_with fail
          obtain ⟨wC, hwC⟩ : ∃ W_, W_ = wB.setCell ⟨G, k2, none⟩ (.int .u8 ((v : Int) / 256 % 256)) := ⟨_, rfl⟩
          have HGC : Hid (wC.heap[G]? = some (.cells ((gsC X).setIfInBounds k2 (.int .u8 (v / 256 : Nat))) 78 (0, 0))) := by
            show _ = _
            rw [hwC, show ((v : Int) / 256 % 256) = ((v / 256 : Nat) : Int) by have := HV6.out; omega]
            exact heap_setCell_same _ G k2 _ _ _ HG1.out
          replace hS : RN w wC R G s q n := by rw [hwC]; exact hS.set HNE.out HG1.out k2 (by have := HK2.out; have := HMN.out.2; omega) _
          rw [← hwC]
          clear hwC kc kf
          refine ⟨rfl, hK _ _ hS ?_⟩
          clear hK K
          refine MixH.takes [false, false, false, false, false, false, false, false, false, false, false, false, false, false, false, false, false, false, false, false, false, false, false, false, true] 1 (by kernel_rfl) (by kernel_rfl) (by decide) (by kernel_rfl) hS (fun K hK => ?_)
          simp only [Mix.pick]
          repeat (go_big_quiet_step (fail))
          refine wpQuiet_nil (hK _ ?_)
          clear hK K
          refine MixH.one [false, false, false, false, false, false, false, false, false, false, false, false, false, false, false, false, false, false, false, false, false, false, false, false, false, true] 0 25 _ rfl rfl (by kernel_rfl) (by kernel_rfl) (fun K hK => ?_)
          simp only [Mix.pick]
          have kc : wC.cell? ⟨G, k2 + 1, none⟩ = some (.int .u8 (gb X.g (k2 + 1) : Nat)) := by
            rw [show wC.cell? ⟨G, k2 + 1, none⟩ = ((gsC X).setIfInBounds k2 (.int .u8 (v / 256 : Nat)))[k2 + 1]? by simp [World.cell?, HGC.out], Array.getElem?_setIfInBounds_ne (by omega)]
            exact gsC_byte _ (k2 + 1) (by omega)
          have kf : wC.frozen? ⟨G, k2 + 1, none⟩ = false := by simp [World.frozen?, HGC.out]
          go_wp2_with fail
          obtain ⟨wD, hwD⟩ : ∃ W_, W_ = wC.setCell ⟨G, k2 + 1, none⟩ (.int .u8 ((v : Int) % 256)) := ⟨_, rfl⟩
          have HGD : Hid (wD.heap[G]? = some (.cells (((gsC X).setIfInBounds k2 (.int .u8 (v / 256 : Nat))).setIfInBounds (k2 + 1) (.int .u8 (v % 256 : Nat))) 78 (0, 0))) := by
            show _ = _
            rw [hwD, show ((v : Int) % 256) = ((v % 256 : Nat) : Int) by omega]
            exact heap_setCell_same _ G (k2 + 1) _ _ _ HGC.out
          replace hS : RN w wD R G s q n := by rw [hwD]; exact hS.set HNE.out HGC.out (k2 + 1) (by have := HK2.out; have := HMN.out.2; omega) _
          rw [← hwD]
          clear hwD kc kf
          refine ⟨rfl, hK _ _ hS ?_⟩
          clear hK K
          refine MixH.done (by kernel_rfl) ?_
          have HS9 : Hid (RN w wD R G s q n) := hS
          have k16 : wD.cell? ⟨G, 16, none⟩ = some (.int .i64 (n : Nat)) := hS.2.1
          have f16 : wD.frozen? ⟨G, 16, none⟩ = false := by simp [World.frozen?, HGD.out]
          clear hS
          go_wp2
          (try simp only [Exit.inBlock, Exit.then])
          go_ret
          refine GrR.ok HZ.out HX0.out rfl ⟨?_, ?_, ?_⟩
          · exact HS9.out.1.ch ((Ch.refl (fun k => k = G) wD).set ⟨G, 16, none⟩ _ rfl) (fun e => HNE.out e.symm)
          · have h := heap_setCell_same wD G 16 _ _ (.int .i64 (n + 1 : Nat)) HGD.out
            rw [HK2.out, gsC_one X n v q HNB.out.1.symm (by have := HMN.out.2; omega)] at h
            exact h
          · exact HS9.out.2.2.set ⟨G, 16, none⟩ _ (.inr rfl)
    | true =>
      by_cases h0 : 0 < n
      · have p1 : decide ((0 : Int) < (n : Int)) = true := decide_eq_true (by omega)
        have p2 : decide (0 < n) = true := decide_eq_true h0
        have HT : Hid (tlB s X q = true) := by show _ = _; rw [HTL.out, p2]; rfl
        clear h0
        go_upto_region 6 with fail
        obtain ⟨m, hm⟩ : ∃ m, m = rmN X := ⟨_, rfl⟩
        have HM : Hid (m = rmN X) := hm
        have HM8 : Hid (m ≤ 8) := by show _ ≤ _; rw [hm]; exact rmN_le X
        clear hm
        have x6 : IntKind.i64.wrap ((n : Int) + 2) = (n : Int) + 2 := i64_s _ (by omega) (by have := HN8.out; omega)
        refine MixH.start (fun A => RG w A R G s { X with p := q }) (by kernel_rfl) ?_
        obtain ⟨wA, hwA⟩ : ∃ W_, W_ = w2.drew := ⟨_, rfl⟩
        have bdr : Below w2.heap.size w2 wA := by rw [hwA]; exact (Below.refl _ _).drew
        have hS : RG w wA R G s { X with p := q } := H2.out.no (Ch.ofBelow bdr)
        rw [← hwA]
        clear hwA bdr
        refine MixH.takes [true, true, true, false, true, false, false, true] 5 (by kernel_rfl) (by kernel_rfl) (by decide) (by kernel_rfl) hS (fun K hK => ?_)
        simp only [Mix.pick]
        repeat (go_big_quiet_step (fail))
        refine wpQuiet_nil (hK _ ?_)
        clear hK K
        refine MixH.take 4 3 _ (.int .i64 (n : Nat)) rfl (by kernel_rfl) (by kernel_rfl) (by kernel_rfl) (by kernel_rfl) (yields_int (.tmp 40) rfl ⟨G, 16, none⟩ (.int .i64 (n : Nat)) rfl rfl (fun A hA => by rw [HNB.out.1]; exact hA.2.1.n)) hS (fun a' ha => ?_)
        simp only [Act.put, List.setIfInBounds_toArray, List.set_cons_succ, List.set_cons_zero] at ha
        subst ha
        refine MixH.one [false, false, false, false, false, true] 3 5 _ rfl rfl (by kernel_rfl) (by kernel_rfl) (fun K hK => ?_)
        simp only [Mix.pick]
        go_wp2_with fail
        refine Calls.mono (width_any true wA) ?_
        rintro e wz ⟨rfl, rfl⟩
        rw [if_pos rfl]
        go_wp2_with fail
        refine ⟨rfl, hK _ _ hS ?_⟩
        clear hK K
        refine MixH.takes [false, false, false, false, false, false, true] 2 (by kernel_rfl) (by kernel_rfl) (by decide) (by kernel_rfl) hS (fun K hK => ?_)
        simp only [Mix.pick]
        repeat (go_big_quiet_step (fail))
        refine wpQuiet_nil (hK _ ?_)
        clear hK K
        refine MixH.one [false, false, false, false, false, false, false, false, true] 1 8 _ rfl rfl (by kernel_rfl) (by kernel_rfl) (fun K hK => ?_)
        simp only [Mix.pick]
        go_wp2_with fail
        refine Calls.mono (most_any G { X with p := q } wA hS.2.1) ?_
        rintro e wz ⟨rfl, rfl⟩
        rw [show rmN { X with p := q } = m from HM.out.symm]
        go_wp2_with fail
        refine ⟨rfl, hK _ _ hS ?_⟩
        clear hK K
        refine MixH.takes [false, false, false, false, false, false, false, false, false, true] 0 (by kernel_rfl) (by kernel_rfl) (by decide) (by kernel_rfl) hS (fun K hK => ?_)
        simp only [Mix.pick]
        repeat (go_big_quiet_step (fail))
        refine wpQuiet_nil (hK _ ?_)
        clear hK K
        refine MixH.done (by kernel_rfl) ?_
        have H6 : Hid (RG w wA R G s { X with p := q }) := hS
        clear hS
        by_cases hm : m < n + 2
        · have m1 : decide ((m : Int) < (n : Int) + 2) = true := decide_eq_true (by omega)
          have m2 : (m : Int) < (n : Int) + 2 := by omega
          have HZ : Hid (grp s X = (X.fail 44 X.p, true)) := grp_many HQ.out.1 HQN.out true HT.out (by rw [← HM.out, ← HNB.out.1]; exact hm)
          clear hm
          go_wp2_with fail
          refine (refuse_any R s q X.p 44 wA H6.out.1).mono ?_
          rintro e w3 ⟨rfl, k1, k2⟩
          have H7 : Hid (RdAt w3 R s X.p ∧ Ch (fun k => k = R ∨ k = G) w w3) := ⟨k1, H6.out.2.2.trans k2 (fun _ _ h => .inl h)⟩
          clear k1 k2
          go_wp2
          (try simp only [Exit.inBlock, Exit.then])
          go_ret
          exact GrR.er HZ.out HX0.out (by decide) rfl H7.out.1 H7.out.2
        · have m1 : decide ((m : Int) < (n : Int) + 2) = false := decide_eq_false (by omega)
          have m2 : ¬ (m : Int) < (n : Int) + 2 := by omega
          have HMN : Hid (¬ rmN X < X.g.length + 2 ∧ n + 2 ≤ 8) := ⟨by rw [← HM.out, ← HNB.out.1]; exact hm, by have := HM8.out; omega⟩
          clear hm
          obtain ⟨k2, hk2⟩ : ∃ k2, k2 = 2 * n := ⟨_, rfl⟩
          have HK2 : Hid (k2 = 2 * n) := hk2
          have h7 := HMN.out.2
          have x7 : IntKind.i64.wrap (2 * (n : Int)) = (k2 : Int) := by rw [i64_s _ (by omega) (by omega)]; omega
          have x8 : IntKind.i64.wrap ((k2 : Int) + 4) = (k2 : Int) + 4 := i64_s _ (by omega) (by omega)
          have b1 : (k2 : Int) + 4 ≤ 16 := by omega
          have b3 : (0 : Int) ≤ (k2 : Int) := by omega
          have b4 : (k2 : Int) ≤ (k2 : Int) + 4 := by omega
          clear hk2 h7 k16 k17
          have c1 : wA.cell? ⟨R, 1, none⟩ = some (.int .i64 (q : Nat)) := H6.out.1.c1
          have f1 : wA.frozen? ⟨R, 1, none⟩ = false := H6.out.1.fz 1
          obtain ⟨wB, hwB⟩ : ∃ wB, wB = wA.setCell ⟨R, 1, none⟩ (.int .i64 (X.p : Nat)) := ⟨_, rfl⟩
          have HB : Hid (RG w wB R G s X) := by
            have h := H6.out.rd (q := X.p) HNE.out (B := wB) ⟨by rw [hwB]; exact H6.out.1.set X.p, by rw [hwB]; exact (Ch.refl (fun k => k = R) wA).set ⟨R, 1, none⟩ _ rfl⟩
            exact h
          have HWB : Hid (wA.setCell ⟨R, 1, none⟩ (.int .i64 (X.p : Nat)) = wB) := hwB.symm
          clear hwB
          go_upto_region 10 with fail
          rw [HWB.out]
          have k16 : wB.cell? ⟨G, 16, none⟩ = some (.int .i64 (n : Nat)) := by rw [HNB.out.1]; exact HB.out.2.1.n
          go_upto_region 11 with fail
          refine MixJ.start (fun A => RN w A R G s X.p n) 9 (by kernel_rfl) ?_
          obtain ⟨wC, hwA⟩ : ∃ W_, W_ = wB.drew := ⟨_, rfl⟩
          have bdr : Below wB.heap.size wB wC := by rw [hwA]; exact (Below.refl _ _).drew
          have hS : RN w wC R G s X.p n := by rw [HNB.out.1]; exact (HB.out.no (Ch.ofBelow bdr)).rn
          have HGC : Hid (GsAt wC G X) := HB.out.2.1.below bdr
          rw [← hwA]
          clear hwA bdr
          refine MixJ.takes [true, true, true, false, true] 6 (by kernel_rfl) (by kernel_rfl) (by decide) (by kernel_rfl) (by kernel_rfl) hS (fun K hK => ?_)
          simp only [Mix.pick]
          repeat (go_big_quiet_step (fail))
          refine wpQuiet_nil (hK _ ?_)
          clear hK K
          refine MixJ.take 5 3 _ (.int .i64 (n : Nat)) rfl (by kernel_rfl) (by kernel_rfl) (by kernel_rfl) (by kernel_rfl) (by kernel_rfl) (by kernel_rfl) (yields_int (.tmp 63) rfl ⟨G, 16, none⟩ (.int .i64 (n : Nat)) rfl rfl (fun A hA => hA.2.1)) hS (fun a' ha => ?_)
          simp only [Act.put, List.setIfInBounds_toArray, List.set_cons_succ, List.set_cons_zero] at ha
          subst ha
          refine MixJ.many [5] 4 (by kernel_rfl) (by decide) (by kernel_rfl) ?_
          intro i_ hi_
          simp only [List.mem_cons, List.not_mem_nil, or_false] at hi_
          subst hi_
          refine ⟨_, rfl, fun K hK => ?_⟩
          go_wp2_with fail
          refine Calls.mono (width_any true wC) ?_
          rintro e wz ⟨rfl, rfl⟩
          rw [if_pos rfl]
          go_wp2_with fail
          refine ⟨rfl, hK _ _ (fun _ => hS) ?_⟩
          clear hK K
          refine MixJ.takes [false, false, false, false, false, false, true] 3 (by kernel_rfl) (by kernel_rfl) (by decide) (by kernel_rfl) (by kernel_rfl) hS (fun K hK => ?_)
          simp only [Mix.pick]
          repeat (go_big_quiet_step (fail))
          refine wpQuiet_nil (hK _ ?_)
          clear hK K
          refine MixJ.many [7] 2 (by kernel_rfl) (by decide) (by kernel_rfl) ?_
          intro i_ hi_
          simp only [List.mem_cons, List.not_mem_nil, or_false] at hi_
          subst hi_
          refine ⟨_, rfl, fun K hK => ?_⟩
          go_wp2_with fail
          refine ⟨rfl, hK _ _ (fun _ => hS) ?_⟩
          clear hK K
          refine MixJ.many [8] 1 (by kernel_rfl) (by decide) (by kernel_rfl) ?_
          intro i_ hi_
          simp only [List.mem_cons, List.not_mem_nil, or_false] at hi_
          subst hi_
          refine ⟨_, rfl, fun K hK => ?_⟩
          go_wp2_with fail
          refine ⟨rfl, hK _ _ (fun _ => hS) ?_⟩
          clear hK K
          refine MixJ.many [9] 0 (by kernel_rfl) (by decide) (by kernel_rfl) ?_
          intro i_ hi_
          simp only [List.mem_cons, List.not_mem_nil, or_false] at hi_
          subst hi_
          refine ⟨_, rfl, fun K hK => ?_⟩
          have kc : wC.cell? ⟨G, 16, none⟩ = some (.int .i64 (n : Nat)) := hS.2.1
          have kf : wC.frozen? ⟨G, 16, none⟩ = false := HGC.out.fz 16
          go_wp2_with fail
          obtain ⟨wD, hwD⟩ : ∃ W_, W_ = wC.setCell ⟨G, 16, none⟩ (.int .i64 ((n : Int) + 2)) := ⟨_, rfl⟩
          have HGD : Hid (wD.heap[G]? = some (.cells ((gsC X).setIfInBounds 16 (.int .i64 (n + 2 : Nat))) 78 (0, 0)) ∧ RdAt wD R s X.p ∧ Ch (fun k => k = R ∨ k = G) w wD) := by
            refine ⟨?_, ?_, ?_⟩
            · rw [hwD]
              exact heap_setCell_same _ G 16 _ _ _ HGC.out
            · rw [hwD]
              exact hS.1.ch ((Ch.refl (fun k => k = G) wC).set ⟨G, 16, none⟩ _ rfl) (fun e => HNE.out e.symm)
            · rw [hwD]
              exact hS.2.2.set ⟨G, 16, none⟩ _ (.inr rfl)
          rw [← hwD]
          clear hwD kc kf
          refine ⟨rfl, hK _ _ (fun q => absurd rfl q) ?_⟩
          clear hK K
          refine MixJ.done (by kernel_rfl) ?_
          clear hS k16 c1 f1
          have al : Tryd.prog.arrayLen 22 = 16 := by kernel_rfl
          go_wp2_with fail
          refine (four_any R G k2 (16 - k2) s X.p _ 78 wD HGD.out.2.1 HGD.out.1 HNE.out (fun j hj => ⟨_, by rw [Array.getElem?_setIfInBounds_ne (by have := HMN.out.2; have := HK2.out; omega)]; exact gsC_byte X (k2 + j) (by have := HMN.out.2; have := HK2.out; omega)⟩) HOK.out.p HP.out).mono ?_
          rintro e w9 ⟨hf, hch⟩
          have HCH : Hid (Ch (fun k => k = R ∨ k = G) w w9) := HGD.out.2.2.trans hch (fun _ _ h => h)
          clear hch al
          cases hd : dtd s 4 X.p [] with
          | inr er =>
            unfold FrR at hf
            rw [hd] at hf
            obtain ⟨rfl, hrd⟩ := hf
            obtain ⟨e1, e2⟩ := er
            have HZ : Hid (grp s X = (X.fail e1 e2, true) ∧ e1 ≠ 0 ∧ RdAt w9 R s e2) := ⟨grp_tailE HQ.out.1 HQN.out HT.out HMN.out.1 hd, (dtd_er 4 X.p [] hd).1, hrd⟩
            clear hd hrd
            go_wp2
            (try simp only [Exit.inBlock, Exit.then])
            go_ret
            exact GrR.er HZ.out.1 HX0.out HZ.out.2.1 rfl HZ.out.2.2 HCH.out
          | inl l =>
            unfold FrR at hf
            rw [hd] at hf
            obtain ⟨rfl, hrd, hP⟩ := hf
            have HZ : Hid (grp s X = ({ X with g := X.g ++ [256 * l.getD 0 0 + l.getD 1 0, 256 * l.getD 2 0 + l.getD 3 0], p := s.size }, true) ∧ RdAt w9 R s s.size ∧ GsAt w9 G { X with g := X.g ++ [256 * l.getD 0 0 + l.getD 1 0, 256 * l.getD 2 0 + l.getD 3 0], p := s.size }) := by
              refine ⟨grp_tail HQ.out.1 HQN.out HT.out HMN.out.1 hd, hrd, ?_⟩
              obtain ⟨t, ht, ht4, _⟩ := dtd_ok 4 X.p [] hd
              rw [HK2.out, gsC_tail X n s.size HNB.out.1.symm (by have := HMN.out.2; omega) l (by rw [ht]; simpa using ht4) (dtd_at hd)] at hP
              exact hP
            clear hd hrd hP
            go_wp2
            (try simp only [Exit.inBlock, Exit.then])
            go_ret
            exact GrR.ok HZ.out.1 HX0.out rfl ⟨HZ.out.2.1, HZ.out.2.2, HCH.out⟩
      · have p1 : decide ((0 : Int) < (n : Int)) = false := decide_eq_false (by omega)
        have p2 : decide (0 < n) = false := decide_eq_false h0
        clear h0
        cases b with
        | true =>
          have HT : Hid (tlB s X q = true) := by show _ = _; rw [HTL.out, p2]; rfl
          go_upto_region 6 with fail
          obtain ⟨m, hm⟩ : ∃ m, m = rmN X := ⟨_, rfl⟩
          have HM : Hid (m = rmN X) := hm
          have HM8 : Hid (m ≤ 8) := by show _ ≤ _; rw [hm]; exact rmN_le X
          clear hm
          have x6 : IntKind.i64.wrap ((n : Int) + 2) = (n : Int) + 2 := i64_s _ (by omega) (by have := HN8.out; omega)
          refine MixH.start (fun A => RG w A R G s { X with p := q }) (by kernel_rfl) ?_
          obtain ⟨wA, hwA⟩ : ∃ W_, W_ = w2.drew := ⟨_, rfl⟩
          have bdr : Below w2.heap.size w2 wA := by rw [hwA]; exact (Below.refl _ _).drew
          have hS : RG w wA R G s { X with p := q } := H2.out.no (Ch.ofBelow bdr)
          rw [← hwA]
          clear hwA bdr
          refine MixH.takes [true, true, true, false, true, false, false, true] 5 (by kernel_rfl) (by kernel_rfl) (by decide) (by kernel_rfl) hS (fun K hK => ?_)
          simp only [Mix.pick]
          repeat (go_big_quiet_step (fail))
          refine wpQuiet_nil (hK _ ?_)
          clear hK K
          refine MixH.take 4 3 _ (.int .i64 (n : Nat)) rfl (by kernel_rfl) (by kernel_rfl) (by kernel_rfl) (by kernel_rfl) (yields_int (.tmp 40) rfl ⟨G, 16, none⟩ (.int .i64 (n : Nat)) rfl rfl (fun A hA => by rw [HNB.out.1]; exact hA.2.1.n)) hS (fun a' ha => ?_)
          simp only [Act.put, List.setIfInBounds_toArray, List.set_cons_succ, List.set_cons_zero] at ha
          subst ha
          refine MixH.one [false, false, false, false, false, true] 3 5 _ rfl rfl (by kernel_rfl) (by kernel_rfl) (fun K hK => ?_)
          simp only [Mix.pick]
          go_wp2_with fail
          refine Calls.mono (width_any true wA) ?_
          rintro e wz ⟨rfl, rfl⟩
          rw [if_pos rfl]
          go_wp2_with fail
          refine ⟨rfl, hK _ _ hS ?_⟩
          clear hK K
          refine MixH.takes [false, false, false, false, false, false, true] 2 (by kernel_rfl) (by kernel_rfl) (by decide) (by kernel_rfl) hS (fun K hK => ?_)
          simp only [Mix.pick]
          repeat (go_big_quiet_step (fail))
          refine wpQuiet_nil (hK _ ?_)
          clear hK K
          refine MixH.one [false, false, false, false, false, false, false, false, true] 1 8 _ rfl rfl (by kernel_rfl) (by kernel_rfl) (fun K hK => ?_)
          simp only [Mix.pick]
          go_wp2_with fail
          refine Calls.mono (most_any G { X with p := q } wA hS.2.1) ?_
          rintro e wz ⟨rfl, rfl⟩
          rw [show rmN { X with p := q } = m from HM.out.symm]
          go_wp2_with fail
          refine ⟨rfl, hK _ _ hS ?_⟩
          clear hK K
          refine MixH.takes [false, false, false, false, false, false, false, false, false, true] 0 (by kernel_rfl) (by kernel_rfl) (by decide) (by kernel_rfl) hS (fun K hK => ?_)
          simp only [Mix.pick]
          repeat (go_big_quiet_step (fail))
          refine wpQuiet_nil (hK _ ?_)
          clear hK K
          refine MixH.done (by kernel_rfl) ?_
          have H6 : Hid (RG w wA R G s { X with p := q }) := hS
          clear hS
          by_cases hm : m < n + 2
          · have m1 : decide ((m : Int) < (n : Int) + 2) = true := decide_eq_true (by omega)
            have m2 : (m : Int) < (n : Int) + 2 := by omega
            have HZ : Hid (grp s X = (X.fail 44 X.p, true)) := grp_many HQ.out.1 HQN.out true HT.out (by rw [← HM.out, ← HNB.out.1]; exact hm)
            clear hm
            go_wp2_with fail
            refine (refuse_any R s q X.p 44 wA H6.out.1).mono ?_
            rintro e w3 ⟨rfl, k1, k2⟩
            have H7 : Hid (RdAt w3 R s X.p ∧ Ch (fun k => k = R ∨ k = G) w w3) := ⟨k1, H6.out.2.2.trans k2 (fun _ _ h => .inl h)⟩
            clear k1 k2
            go_wp2
            (try simp only [Exit.inBlock, Exit.then])
            go_ret
            exact GrR.er HZ.out HX0.out (by decide) rfl H7.out.1 H7.out.2
          · have m1 : decide ((m : Int) < (n : Int) + 2) = false := decide_eq_false (by omega)
            have m2 : ¬ (m : Int) < (n : Int) + 2 := by omega
            have HMN : Hid (¬ rmN X < X.g.length + 2 ∧ n + 2 ≤ 8) := ⟨by rw [← HM.out, ← HNB.out.1]; exact hm, by have := HM8.out; omega⟩
            clear hm
            obtain ⟨k2, hk2⟩ : ∃ k2, k2 = 2 * n := ⟨_, rfl⟩
            have HK2 : Hid (k2 = 2 * n) := hk2
            have h7 := HMN.out.2
            have x7 : IntKind.i64.wrap (2 * (n : Int)) = (k2 : Int) := by rw [i64_s _ (by omega) (by omega)]; omega
            have x8 : IntKind.i64.wrap ((k2 : Int) + 4) = (k2 : Int) + 4 := i64_s _ (by omega) (by omega)
            have b1 : (k2 : Int) + 4 ≤ 16 := by omega
            have b3 : (0 : Int) ≤ (k2 : Int) := by omega
            have b4 : (k2 : Int) ≤ (k2 : Int) + 4 := by omega
            clear hk2 h7 k16 k17
            have c1 : wA.cell? ⟨R, 1, none⟩ = some (.int .i64 (q : Nat)) := H6.out.1.c1
            have f1 : wA.frozen? ⟨R, 1, none⟩ = false := H6.out.1.fz 1
            obtain ⟨wB, hwB⟩ : ∃ wB, wB = wA.setCell ⟨R, 1, none⟩ (.int .i64 (X.p : Nat)) := ⟨_, rfl⟩
            have HB : Hid (RG w wB R G s X) := by
              have h := H6.out.rd (q := X.p) HNE.out (B := wB) ⟨by rw [hwB]; exact H6.out.1.set X.p, by rw [hwB]; exact (Ch.refl (fun k => k = R) wA).set ⟨R, 1, none⟩ _ rfl⟩
              exact h
            have HWB : Hid (wA.setCell ⟨R, 1, none⟩ (.int .i64 (X.p : Nat)) = wB) := hwB.symm
            clear hwB
            go_upto_region 10 with fail
            rw [HWB.out]
            have k16 : wB.cell? ⟨G, 16, none⟩ = some (.int .i64 (n : Nat)) := by rw [HNB.out.1]; exact HB.out.2.1.n
            go_upto_region 11 with fail
            refine MixJ.start (fun A => RN w A R G s X.p n) 9 (by kernel_rfl) ?_
            obtain ⟨wC, hwA⟩ : ∃ W_, W_ = wB.drew := ⟨_, rfl⟩
            have bdr : Below wB.heap.size wB wC := by rw [hwA]; exact (Below.refl _ _).drew
            have hS : RN w wC R G s X.p n := by rw [HNB.out.1]; exact (HB.out.no (Ch.ofBelow bdr)).rn
            have HGC : Hid (GsAt wC G X) := HB.out.2.1.below bdr
            rw [← hwA]
            clear hwA bdr
            refine MixJ.takes [true, true, true, false, true] 6 (by kernel_rfl) (by kernel_rfl) (by decide) (by kernel_rfl) (by kernel_rfl) hS (fun K hK => ?_)
            simp only [Mix.pick]
            repeat (go_big_quiet_step (fail))
            refine wpQuiet_nil (hK _ ?_)
            clear hK K
            refine MixJ.take 5 3 _ (.int .i64 (n : Nat)) rfl (by kernel_rfl) (by kernel_rfl) (by kernel_rfl) (by kernel_rfl) (by kernel_rfl) (by kernel_rfl) (yields_int (.tmp 63) rfl ⟨G, 16, none⟩ (.int .i64 (n : Nat)) rfl rfl (fun A hA => hA.2.1)) hS (fun a' ha => ?_)
            simp only [Act.put, List.setIfInBounds_toArray, List.set_cons_succ, List.set_cons_zero] at ha
            subst ha
            refine MixJ.many [5] 4 (by kernel_rfl) (by decide) (by kernel_rfl) ?_
            intro i_ hi_
            simp only [List.mem_cons, List.not_mem_nil, or_false] at hi_
            subst hi_
            refine ⟨_, rfl, fun K hK => ?_⟩
            go_wp2_with fail
            refine Calls.mono (width_any true wC) ?_
            rintro e wz ⟨rfl, rfl⟩
            rw [if_pos rfl]
            go_wp2_with fail
            refine ⟨rfl, hK _ _ (fun _ => hS) ?_⟩
            clear hK K
            refine MixJ.takes [false, false, false, false, false, false, true] 3 (by kernel_rfl) (by kernel_rfl) (by decide) (by kernel_rfl) (by kernel_rfl) hS (fun K hK => ?_)
            simp only [Mix.pick]
            repeat (go_big_quiet_step (fail))
            refine wpQuiet_nil (hK _ ?_)
            clear hK K
            refine MixJ.many [7] 2 (by kernel_rfl) (by decide) (by kernel_rfl) ?_
            intro i_ hi_
            simp only [List.mem_cons, List.not_mem_nil, or_false] at hi_
            subst hi_
            refine ⟨_, rfl, fun K hK => ?_⟩
            go_wp2_with fail
            refine ⟨rfl, hK _ _ (fun _ => hS) ?_⟩
            clear hK K
            refine MixJ.many [8] 1 (by kernel_rfl) (by decide) (by kernel_rfl) ?_
            intro i_ hi_
            simp only [List.mem_cons, List.not_mem_nil, or_false] at hi_
            subst hi_
            refine ⟨_, rfl, fun K hK => ?_⟩
            go_wp2_with fail
            refine ⟨rfl, hK _ _ (fun _ => hS) ?_⟩
            clear hK K
            refine MixJ.many [9] 0 (by kernel_rfl) (by decide) (by kernel_rfl) ?_
            intro i_ hi_
            simp only [List.mem_cons, List.not_mem_nil, or_false] at hi_
            subst hi_
            refine ⟨_, rfl, fun K hK => ?_⟩
            have kc : wC.cell? ⟨G, 16, none⟩ = some (.int .i64 (n : Nat)) := hS.2.1
            have kf : wC.frozen? ⟨G, 16, none⟩ = false := HGC.out.fz 16
            go_wp2_with fail
            obtain ⟨wD, hwD⟩ : ∃ W_, W_ = wC.setCell ⟨G, 16, none⟩ (.int .i64 ((n : Int) + 2)) := ⟨_, rfl⟩
            have HGD : Hid (wD.heap[G]? = some (.cells ((gsC X).setIfInBounds 16 (.int .i64 (n + 2 : Nat))) 78 (0, 0)) ∧ RdAt wD R s X.p ∧ Ch (fun k => k = R ∨ k = G) w wD) := by
              refine ⟨?_, ?_, ?_⟩
              · rw [hwD]
                exact heap_setCell_same _ G 16 _ _ _ HGC.out
              · rw [hwD]
                exact hS.1.ch ((Ch.refl (fun k => k = G) wC).set ⟨G, 16, none⟩ _ rfl) (fun e => HNE.out e.symm)
              · rw [hwD]
                exact hS.2.2.set ⟨G, 16, none⟩ _ (.inr rfl)
            rw [← hwD]
            clear hwD kc kf
            refine ⟨rfl, hK _ _ (fun q => absurd rfl q) ?_⟩
            clear hK K
            refine MixJ.done (by kernel_rfl) ?_
            clear hS k16 c1 f1
            have al : Tryd.prog.arrayLen 22 = 16 := by kernel_rfl
            go_wp2_with fail
            refine (four_any R G k2 (16 - k2) s X.p _ 78 wD HGD.out.2.1 HGD.out.1 HNE.out (fun j hj => ⟨_, by rw [Array.getElem?_setIfInBounds_ne (by have := HMN.out.2; have := HK2.out; omega)]; exact gsC_byte X (k2 + j) (by have := HMN.out.2; have := HK2.out; omega)⟩) HOK.out.p HP.out).mono ?_
            rintro e w9 ⟨hf, hch⟩
            have HCH : Hid (Ch (fun k => k = R ∨ k = G) w w9) := HGD.out.2.2.trans hch (fun _ _ h => h)
            clear hch al
            cases hd : dtd s 4 X.p [] with
            | inr er =>
              unfold FrR at hf
              rw [hd] at hf
              obtain ⟨rfl, hrd⟩ := hf
              obtain ⟨e1, e2⟩ := er
              have HZ : Hid (grp s X = (X.fail e1 e2, true) ∧ e1 ≠ 0 ∧ RdAt w9 R s e2) := ⟨grp_tailE HQ.out.1 HQN.out HT.out HMN.out.1 hd, (dtd_er 4 X.p [] hd).1, hrd⟩
              clear hd hrd
              go_wp2
              (try simp only [Exit.inBlock, Exit.then])
              go_ret
              exact GrR.er HZ.out.1 HX0.out HZ.out.2.1 rfl HZ.out.2.2 HCH.out
            | inl l =>
              unfold FrR at hf
              rw [hd] at hf
              obtain ⟨rfl, hrd, hP⟩ := hf
              have HZ : Hid (grp s X = ({ X with g := X.g ++ [256 * l.getD 0 0 + l.getD 1 0, 256 * l.getD 2 0 + l.getD 3 0], p := s.size }, true) ∧ RdAt w9 R s s.size ∧ GsAt w9 G { X with g := X.g ++ [256 * l.getD 0 0 + l.getD 1 0, 256 * l.getD 2 0 + l.getD 3 0], p := s.size }) := by
                refine ⟨grp_tail HQ.out.1 HQN.out HT.out HMN.out.1 hd, hrd, ?_⟩
                obtain ⟨t, ht, ht4, _⟩ := dtd_ok 4 X.p [] hd
                rw [HK2.out, gsC_tail X n s.size HNB.out.1.symm (by have := HMN.out.2; omega) l (by rw [ht]; simpa using ht4) (dtd_at hd)] at hP
                exact hP
              clear hd hrd hP
              go_wp2
              (try simp only [Exit.inBlock, Exit.then])
              go_ret
              exact GrR.ok HZ.out.1 HX0.out rfl ⟨HZ.out.2.1, HZ.out.2.2, HCH.out⟩
        | false =>
          have HT : Hid (tlB s X q = false) := by show _ = _; rw [HTL.out, p2]; rfl
          go_upto_region 6 with fail
          obtain ⟨m, hm⟩ : ∃ m, m = rmN X := ⟨_, rfl⟩
          have HM : Hid (m = rmN X) := hm
          have HM8 : Hid (m ≤ 8) := by show _ ≤ _; rw [hm]; exact rmN_le X
          clear hm
          have x6 : IntKind.i64.wrap ((n : Int) + 1) = (n : Int) + 1 := i64_s _ (by omega) (by have := HN8.out; omega)
          refine MixH.start (fun A => RG w A R G s { X with p := q }) (by kernel_rfl) ?_
          obtain ⟨wA, hwA⟩ : ∃ W_, W_ = w2.drew := ⟨_, rfl⟩
          have bdr : Below w2.heap.size w2 wA := by rw [hwA]; exact (Below.refl _ _).drew
          have hS : RG w wA R G s { X with p := q } := H2.out.no (Ch.ofBelow bdr)
          rw [← hwA]
          clear hwA bdr
          refine MixH.takes [true, true, true, false, true, false, false, true] 5 (by kernel_rfl) (by kernel_rfl) (by decide) (by kernel_rfl) hS (fun K hK => ?_)
          simp only [Mix.pick]
          repeat (go_big_quiet_step (fail))
          refine wpQuiet_nil (hK _ ?_)
          clear hK K
          refine MixH.take 4 3 _ (.int .i64 (n : Nat)) rfl (by kernel_rfl) (by kernel_rfl) (by kernel_rfl) (by kernel_rfl) (yields_int (.tmp 40) rfl ⟨G, 16, none⟩ (.int .i64 (n : Nat)) rfl rfl (fun A hA => by rw [HNB.out.1]; exact hA.2.1.n)) hS (fun a' ha => ?_)
          simp only [Act.put, List.setIfInBounds_toArray, List.set_cons_succ, List.set_cons_zero] at ha
          subst ha
          refine MixH.one [false, false, false, false, false, true] 3 5 _ rfl rfl (by kernel_rfl) (by kernel_rfl) (fun K hK => ?_)
          simp only [Mix.pick]
          go_wp2_with fail
          refine Calls.mono (width_any false wA) ?_
          rintro e wz ⟨rfl, rfl⟩
          rw [if_neg (by decide)]
          go_wp2_with fail
          refine ⟨rfl, hK _ _ hS ?_⟩
          clear hK K
          refine MixH.takes [false, false, false, false, false, false, true] 2 (by kernel_rfl) (by kernel_rfl) (by decide) (by kernel_rfl) hS (fun K hK => ?_)
          simp only [Mix.pick]
          repeat (go_big_quiet_step (fail))
          refine wpQuiet_nil (hK _ ?_)
          clear hK K
          refine MixH.one [false, false, false, false, false, false, false, false, true] 1 8 _ rfl rfl (by kernel_rfl) (by kernel_rfl) (fun K hK => ?_)
          simp only [Mix.pick]
          go_wp2_with fail
          refine Calls.mono (most_any G { X with p := q } wA hS.2.1) ?_
          rintro e wz ⟨rfl, rfl⟩
          rw [show rmN { X with p := q } = m from HM.out.symm]
          go_wp2_with fail
          refine ⟨rfl, hK _ _ hS ?_⟩
          clear hK K
          refine MixH.takes [false, false, false, false, false, false, false, false, false, true] 0 (by kernel_rfl) (by kernel_rfl) (by decide) (by kernel_rfl) hS (fun K hK => ?_)
          simp only [Mix.pick]
          repeat (go_big_quiet_step (fail))
          refine wpQuiet_nil (hK _ ?_)
          clear hK K
          refine MixH.done (by kernel_rfl) ?_
          have H6 : Hid (RG w wA R G s { X with p := q }) := hS
          clear hS
          by_cases hm : m < n + 1
          · have m1 : decide ((m : Int) < (n : Int) + 1) = true := decide_eq_true (by omega)
            have m2 : (m : Int) < (n : Int) + 1 := by omega
            have HZ : Hid (grp s X = (X.fail 44 X.p, true)) := grp_many HQ.out.1 HQN.out false HT.out (by rw [← HM.out, ← HNB.out.1]; exact hm)
            clear hm
            go_wp2_with fail
            refine (refuse_any R s q X.p 44 wA H6.out.1).mono ?_
            rintro e w3 ⟨rfl, k1, k2⟩
            have H7 : Hid (RdAt w3 R s X.p ∧ Ch (fun k => k = R ∨ k = G) w w3) := ⟨k1, H6.out.2.2.trans k2 (fun _ _ h => .inl h)⟩
            clear k1 k2
            go_wp2
            (try simp only [Exit.inBlock, Exit.then])
            go_ret
            exact GrR.er HZ.out HX0.out (by decide) rfl H7.out.1 H7.out.2
          · have m1 : decide ((m : Int) < (n : Int) + 1) = false := decide_eq_false (by omega)
            have m2 : ¬ (m : Int) < (n : Int) + 1 := by omega
            have HMN : Hid (¬ rmN X < X.g.length + 1 ∧ n + 1 ≤ 8) := ⟨by rw [← HM.out, ← HNB.out.1]; exact hm, by have := HM8.out; omega⟩
            clear hm
            by_cases h4 : 4 < d.size
            · have p3 : decide ((4 : Int) < (d.size : Int)) = true := decide_eq_true (by omega)
              have p4 : decide (4 < d.size) = true := decide_eq_true h4
              have HZ : Hid (grp s X = (X.fail 43 X.p, true)) := grp_long HQ.out.1 HQN.out HT.out HMN.out.1 (by rw [← HD.out.2]; exact h4)
              clear h4
              go_wp2_with fail
              refine (refuse_any R s q X.p 43 wA H6.out.1).mono ?_
              rintro e w3 ⟨rfl, k1, k2⟩
              have H7 : Hid (RdAt w3 R s X.p ∧ Ch (fun k => k = R ∨ k = G) w w3) := ⟨k1, H6.out.2.2.trans k2 (fun _ _ h => .inl h)⟩
              clear k1 k2
              go_wp2
              (try simp only [Exit.inBlock, Exit.then])
              go_ret
              exact GrR.er HZ.out HX0.out (by decide) rfl H7.out.1 H7.out.2
            · have p3 : decide ((4 : Int) < (d.size : Int)) = false := decide_eq_false (by omega)
              have p4 : decide (4 < d.size) = false := decide_eq_false h4
              obtain ⟨v, hv⟩ : ∃ v, vlN d 16 d.size = v := ⟨_, rfl⟩
              have HV : Hid (vlN d 16 d.size = v ∧ v = hxN s X.p (q - X.p) ∧ d.size ≤ 4) := ⟨hv, by rw [← hv, HD.out.2, HD.out.1]; exact vlN_hx HQB.out.2 HHX.out _ (Nat.le_refl _), by omega⟩
              have hv6 : v < 65536 := by rw [HV.out.2.1]; exact hxN_small (by rw [← HD.out.2]; exact HV.out.2.2)
              have HV6 : Hid (v < 65536) := hv6
              have HZ : Hid (grp s X = ({ X with g := X.g ++ [v], p := q }, q == s.size)) := by
                show _ = _
                rw [HV.out.2.1]
                exact grp_one HQ.out.1 HQN.out HT.out HMN.out.1 (by rw [← HD.out.2]; exact h4)
              obtain ⟨k2, hk2⟩ : ∃ k2, k2 = 2 * n := ⟨_, rfl⟩
              have HK2 : Hid (k2 = 2 * n) := hk2
              have h7 := HMN.out.2
              have x7 : IntKind.i64.wrap (2 * (n : Int)) = (k2 : Int) := by rw [i64_s _ (by omega) (by omega)]; omega
              have x8 : IntKind.i64.wrap ((k2 : Int) + 1) = (k2 : Int) + 1 := i64_s _ (by omega) (by omega)
              have b1 : (k2 : Int) < 16 := by omega
              have b2 : (k2 : Int) + 1 < 16 := by omega
              have b3 : (0 : Int) ≤ (k2 : Int) := by omega
              have b4 : (0 : Int) ≤ (k2 : Int) + 1 := by omega
              clear h4 hv hv6 hk2 h7 k16 k17
              go_wp2_with fail
              refine (value_any d 16 wA HV.out.2.2 (by decide)).mono ?_
              rintro e wz ⟨rfl, rfl⟩
              rw [HV.out.1]
              go_upto_region 16 with fail
              refine MixH.start (fun A => RN w A R G s q n) (by kernel_rfl) ?_
              obtain ⟨wB, hwA⟩ : ∃ W_, W_ = wA.drew := ⟨_, rfl⟩
              have bdr : Below wA.heap.size wA wB := by rw [hwA]; exact (Below.refl _ _).drew
              have hS : RN w wB R G s q n := by rw [HNB.out.1]; exact (H6.out.no (Ch.ofBelow bdr)).rn
              have HG1 : Hid (GsAt wB G { X with p := q }) := H6.out.2.1.below bdr
              rw [← hwA]
              clear hwA bdr
              refine MixH.takes [true, true, true, true, false, false, true, true, true, true, false, false, false, true, true, true, true, true, true, true, false, false, true, true] 9 (by kernel_rfl) (by kernel_rfl) (by decide) (by kernel_rfl) hS (fun K hK => ?_)
              simp only [Mix.pick]
              repeat (go_big_quiet_step (fail))
              refine wpQuiet_nil (hK _ ?_)
              clear hK K
              refine MixH.take 8 4 _ (.int .i64 (n : Nat)) rfl (by kernel_rfl) (by kernel_rfl) (by kernel_rfl) (by kernel_rfl) (yields_int (.tmp 90) rfl ⟨G, 16, none⟩ (.int .i64 (n : Nat)) rfl rfl (fun A hA => hA.2.1)) hS (fun a' ha => ?_)
              simp only [Act.put, List.setIfInBounds_toArray, List.set_cons_succ, List.set_cons_zero] at ha
              subst ha
              refine MixH.takes [false, false, false, false, false, true] 7 (by kernel_rfl) (by kernel_rfl) (by decide) (by kernel_rfl) hS (fun K hK => ?_)
              simp only [Mix.pick]
              repeat (go_big_quiet_step (fail))
              refine wpQuiet_nil (hK _ ?_)
              clear hK K
              refine MixH.take 6 10 _ (.int .i64 (n : Nat)) rfl (by kernel_rfl) (by kernel_rfl) (by kernel_rfl) (by kernel_rfl) (yields_int (.tmp 96) rfl ⟨G, 16, none⟩ (.int .i64 (n : Nat)) rfl rfl (fun A hA => hA.2.1)) hS (fun a' ha => ?_)
              simp only [Act.put, List.setIfInBounds_toArray, List.set_cons_succ, List.set_cons_zero] at ha
              subst ha
              refine MixH.takes [false, false, false, false, false, false, false, false, false, false, false, true, true, false, false, false, false, false, false, false, true] 3 (by kernel_rfl) (by kernel_rfl) (by decide) (by kernel_rfl) hS (fun K hK => ?_)
              simp only [Mix.pick]
              repeat (go_big_quiet_step (fail))
              refine wpQuiet_nil (hK _ ?_)
              clear hK K
              refine MixH.one [false, false, false, false, false, false, false, false, false, false, false, false, false, false, false, false, false, false, false, false, false, true] 2 21 _ rfl rfl (by kernel_rfl) (by kernel_rfl) (fun K hK => ?_)
              simp only [Mix.pick]
              have kc : wB.cell? ⟨G, k2, none⟩ = some (.int .u8 (gb X.g k2 : Nat)) := (HG1.out.cell k2).trans (gsC_byte _ k2 (by omega))
              have kf : wB.frozen? ⟨G, k2, none⟩ = false := HG1.out.fz k2
              go_wp2_with fail
              obtain ⟨wC, hwC⟩ : ∃ W_, W_ = wB.setCell ⟨G, k2, none⟩ (.int .u8 ((v : Int) / 256 % 256)) := ⟨_, rfl⟩
              have HGC : Hid (wC.heap[G]? = some (.cells ((gsC X).setIfInBounds k2 (.int .u8 (v / 256 : Nat))) 78 (0, 0))) := by
                show _ = _
                rw [hwC, show ((v : Int) / 256 % 256) = ((v / 256 : Nat) : Int) by have := HV6.out; omega]
                exact heap_setCell_same _ G k2 _ _ _ HG1.out
              replace hS : RN w wC R G s q n := by rw [hwC]; exact hS.set HNE.out HG1.out k2 (by have := HK2.out; have := HMN.out.2; omega) _
              rw [← hwC]
              clear hwC kc kf
              refine ⟨rfl, hK _ _ hS ?_⟩
              clear hK K
              refine MixH.takes [false, false, false, false, false, false, false, false, false, false, false, false, false, false, false, false, false, false, false, false, false, false, false, false, true] 1 (by kernel_rfl) (by kernel_rfl) (by decide) (by kernel_rfl) hS (fun K hK => ?_)
              simp only [Mix.pick]
              repeat (go_big_quiet_step (fail))
              refine wpQuiet_nil (hK _ ?_)
              clear hK K
              refine MixH.one [false, false, false, false, false, false, false, false, false, false, false, false, false, false, false, false, false, false, false, false, false, false, false, false, false, true] 0 25 _ rfl rfl (by kernel_rfl) (by kernel_rfl) (fun K hK => ?_)
              simp only [Mix.pick]
              have kc : wC.cell? ⟨G, k2 + 1, none⟩ = some (.int .u8 (gb X.g (k2 + 1) : Nat)) := by
                rw [show wC.cell? ⟨G, k2 + 1, none⟩ = ((gsC X).setIfInBounds k2 (.int .u8 (v / 256 : Nat)))[k2 + 1]? by simp [World.cell?, HGC.out], Array.getElem?_setIfInBounds_ne (by omega)]
                exact gsC_byte _ (k2 + 1) (by omega)
              have kf : wC.frozen? ⟨G, k2 + 1, none⟩ = false := by simp [World.frozen?, HGC.out]
              go_wp2_with fail
              obtain ⟨wD, hwD⟩ : ∃ W_, W_ = wC.setCell ⟨G, k2 + 1, none⟩ (.int .u8 ((v : Int) % 256)) := ⟨_, rfl⟩
              have HGD : Hid (wD.heap[G]? = some (.cells (((gsC X).setIfInBounds k2 (.int .u8 (v / 256 : Nat))).setIfInBounds (k2 + 1) (.int .u8 (v % 256 : Nat))) 78 (0, 0))) := by
                show _ = _
                rw [hwD, show ((v : Int) % 256) = ((v % 256 : Nat) : Int) by omega]
                exact heap_setCell_same _ G (k2 + 1) _ _ _ HGC.out
              replace hS : RN w wD R G s q n := by rw [hwD]; exact hS.set HNE.out HGC.out (k2 + 1) (by have := HK2.out; have := HMN.out.2; omega) _
              rw [← hwD]
              clear hwD kc kf
              refine ⟨rfl, hK _ _ hS ?_⟩
              clear hK K
              refine MixH.done (by kernel_rfl) ?_
              have HS9 : Hid (RN w wD R G s q n) := hS
              have k16 : wD.cell? ⟨G, 16, none⟩ = some (.int .i64 (n : Nat)) := hS.2.1
              have f16 : wD.frozen? ⟨G, 16, none⟩ = false := by simp [World.frozen?, HGD.out]
              clear hS
              go_wp2
              (try simp only [Exit.inBlock, Exit.then])
              go_ret
              refine GrR.ok HZ.out HX0.out rfl ⟨?_, ?_, ?_⟩
              · exact HS9.out.1.ch ((Ch.refl (fun k => k = G) wD).set ⟨G, 16, none⟩ _ rfl) (fun e => HNE.out e.symm)
              · have h := heap_setCell_same wD G 16 _ _ (.int .i64 (n + 1 : Nat)) HGD.out
                rw [HK2.out, gsC_one X n v q HNB.out.1.symm (by have := HMN.out.2; omega)] at h
                exact h
              · exact HS9.out.2.2.set ⟨G, 16, none⟩ _ (.inr rfl)
end Go.Proofs.YtfeabifjnihooaaDoor
