/-
  icmp.Serialise.
-/
import Derived.Test.YtijipfciimcnpaaDoorI8Parse
namespace Go.Proofs.YtijipfciimcnpaaDoor
open Go.RowKit
open I8 (M8)

theorem parts_two (W : World) (S : Nat → Prop) (N : Nat) (p1 p2 : PV) (h1 : W.cell? ⟨N, 0, none⟩ = some (.slice p1.a p1.bs.length p1.cap)) (h2 : W.cell? ⟨N, 1, none⟩ = some (.slice p2.a p2.bs.length p2.cap))
    (s1 : Seg .u8 W p1.a (toI p1.bs)) (s2 : Seg .u8 W p2.a (toI p2.bs)) (hN : ¬ S N)
    (d1 : ∀ z, toI p1.bs ≠ [] → p1.a = some z → ¬ S z.block) (d2 : ∀ z, toI p2.bs ≠ [] → p2.a = some z → ¬ S z.block) : PartsAt W S (some ⟨N, 0, none⟩) [p1, p2] := by
  refine .inr ⟨N, 0, rfl, hN, World.block_lt_of_cell? W _ h1, fun i p hp => ?_⟩
  match i, hp with
  | 0, hp => simp at hp; subst hp; exact ⟨h1, s1, d1⟩
  | 1, hp => simp at hp; subst hp; exact ⟨h2, s2, d2⟩
  | i + 2, hp => simp at hp
theorem seg_blk {w : World} {k : IntKind} {a : Option Addr} {zs : List Int} (h : Seg k w a zs) (z : Addr) (hz : zs ≠ []) (ha : a = some z) : z.block < w.heap.size := by
  rcases h with h0 | ⟨g, f, e, hc⟩
  · exact absurd h0 hz
  · rw [ha] at e
    have := Option.some.inj e
    subst this
    exact World.block_lt_of_cell? w _ (hc 0 (List.length_pos_iff.2 hz))
theorem part_ch {S : Nat → Prop} {A B : World} {p : Part} (h : p.ok A) (k : Ch S A B) (hS : ∀ z, toI p.l ≠ [] → p.a = some z → ¬ S z.block) : p.ok B := ⟨k.seg h.1 hS, h.2⟩
theorem spl8 (m : M8) (s : Nat) (r : List Nat) (hs : s ≤ 65535) : spl (I8.hd m 0 ++ r) 2 (byN 2 s) = I8.hd m s ++ r := by
  have e : byN 2 s = [s / 256, s % 256] := by
    simp only [byN, List.range_succ, List.range_zero, List.nil_append, List.map_cons, List.map_nil, List.cons_append]
    simp
    omega
  rw [e]
  simp [spl, I8.hd]
theorem sE_split (m : M8) (V U : Int) : I8.sE m (six6 V U) = if I8.chk m = 0 then psX m.v V U else I8.chk m := by
  unfold I8.sE psX; rfl
/-- what Serialise leaves -/
def SerRes (w : World) (L : Nat) (l : List Nat) (er : Nat) (v : Value) (w' : World) : Prop :=
  (er = 0 ∧ ∃ g, v = .slice (some ⟨g, 0, none⟩) L L ∧ OwnB w' w.heap.size (.slice (some ⟨g, 0, none⟩) L L) L l) ∨ (er ≠ 0 ∧ v = .slice none 0 0)
set_option maxHeartbeats 6400000 in
set_option maxRecDepth 100000 in
theorem icSer_any (V U : Int) (x y : Nat → Nat) (m : M8) (da : Option Addr) (n c : Nat) (w : World) (hw : Wid8 w) (k : MOk w m da n c) (hx : ∀ i, i < 16 → x i < 256) (hy : ∀ i, i < 16 → y i < 256) :
    Calls Tryd.prog 14 #[.agg (ipCells V x), .agg (ipCells U y), .agg (mC m da n c)] w fun e w' => ∃ v er, e = .returned (.tuple #[v, .int .i64 (er : Nat)]) ∧ er = I8.sE m (six6 V U) ∧ Below w.heap.size w w' ∧ SerRes w (8 + n) (I8.ser m (psB m.v V U x y (8 + n))) er v w' := by
  obtain ⟨A, hA⟩ : ∃ A, A = ipCells V x := ⟨_, rfl⟩
  obtain ⟨C, hC⟩ : ∃ C, C = ipCells U y := ⟨_, rfl⟩
  have hx1 := boxed_new w V x 24
  have hy1 := boxed_new (w.alloc (.cells (ipCells V x) 24)) U y 24
  rw [World.size_alloc] at hy1
  have hx2 := hx1.old ((Below.refl _ _).alloc (Nat.le_refl _) (.cells (ipCells U y) 24))
  clear hx1
  rw [← hA] at hx2 hy1 ⊢
  rw [← hC] at hx2 hy1 ⊢
  obtain ⟨M, hM⟩ : ∃ M, M = mC m da n c := ⟨_, rfl⟩
  have s2 : ((w.alloc (.cells A 24)).alloc (.cells C 24)).heap.size = w.heap.size + 1 + 1 := by simp
  have hr := mAt_new ((w.alloc (.cells A 24)).alloc (.cells C 24)) m da n c
  rw [s2, ← hM] at hr
  have b3 : Below ((w.alloc (.cells A 24)).alloc (.cells C 24)).heap.size ((w.alloc (.cells A 24)).alloc (.cells C 24)) (((w.alloc (.cells A 24)).alloc (.cells C 24)).alloc (.cells M 31)) := (Below.refl _ _).alloc (Nat.le_refl _) _
  have hx3 := hx2.old b3
  have hy3 := hy1.old b3
  have bel : Below w.heap.size w (((w.alloc (.cells A 24)).alloc (.cells C 24)).alloc (.cells M 31)) := (((Below.refl _ _).alloc (Nat.le_refl _) _).alloc (by simp) _).alloc (by simp; omega) _
  clear hx2 hy1 b3 s2
  obtain ⟨W, hW⟩ : ∃ W, W = ((w.alloc (.cells A 24)).alloc (.cells C 24)).alloc (.cells M 31) := ⟨_, rfl⟩
  rw [← hW] at hr hx3 hy3 bel
  obtain ⟨B0, hB⟩ : ∃ B, B = w.heap.size := ⟨_, rfl⟩
  have HB : Hid (w.heap.size = B0) := hB.symm
  rw [← hB] at hr hx3 hy3
  obtain ⟨O, hO⟩ : ∃ O, O = B0 + 1 + 1 := ⟨_, rfl⟩
  rw [← hO] at hr
  have HW : Hid (((w.alloc (.cells A 24)).alloc (.cells C 24)).alloc (.cells M 31) = W) := hW.symm
  have HO : Hid (B0 + 1 + 1 = O) := hO.symm
  have HR : Hid (MAt W O m da n c) := hr
  have HX : Hid (∀ i, i < 16 → x i < 256) := hx
  have HY : Hid (∀ i, i < 16 → y i < 256) := hy
  have HK : Hid (MOk w m da n c) := k
  have HWID : Hid (∀ A, Below w.heap.size w A → Wid8 A) := fun A hA => hw.old hA
  have HXB : Hid (Boxed W B0 V x) := hx3
  have HYB : Hid (Boxed W (B0 + 1) U y) := hy3
  obtain ⟨E, hE⟩ : ∃ E, E = I8.sE m (six6 V U) := ⟨_, rfl⟩
  rw [← hE]
  have HEQ : Hid (E = if I8.chk m = 0 then psX m.v V U else I8.chk m) := by rw [hE]; exact sE_split m V U
  have QC : Hid _ := icCheck_any m da n c W k.dl k.sm
  obtain ⟨R, hR⟩ : ∃ R, R = I8.chk m := ⟨_, rfl⟩
  rw [← hR] at QC HEQ
  have HCHK : Hid (R = I8.chk m) := hR
  rw [← hM]
  clear hW hr hx3 hy3 hO hx hy hw hE hA hC hM hR hB k
  by_cases hz : R = 0
  case neg =>
    have b1 : ((R : Int) != 0) = true := by rw [bne_iff_ne]; omega
    rw [if_neg hz] at HEQ
    have HZ : Hid (E ≠ 0) := by rw [HEQ.out]; exact hz
    clear hz
    go_enter Tryd.func14, Tryd.ntmps14
    go_upto_region 1 with fail
    rw [HB.out, HO.out, HW.out]
    go_wp2_with (first | (refine wpList_load_m8 _ rfl O m da n c rfl HR.out rfl ?_))
    refine Calls.mono QC.out ?_
    rintro e w1 ⟨rfl, hb1⟩
    have bel1 := bthen bel hb1
    clear hb1
    go_wp2
    go_ret2
    exact ⟨_, E, (by rw [HEQ.out]; rfl), rfl, bel1, .inr ⟨HZ.out, rfl⟩⟩
  rw [if_pos hz] at HEQ
  have hc0 := I8.chk_zero m (by rw [← HCHK.out]; exact hz)
  have HV : Hid (I8.isV m.v = true) := hc0.1
  have HF : Hid (I8.okF m = true) := hc0.2.1
  have hn8 : 8 + n ≤ 65515 := by rw [← HK.out.dl]; exact hc0.2.2
  clear hc0
  subst hz
  go_enter Tryd.func14, Tryd.ntmps14
  go_upto_region 1 with fail
  rw [HB.out, HO.out, HW.out]
  go_wp2_with (first | (refine wpList_load_m8 _ rfl O m da n c rfl HR.out rfl ?_))
  refine Calls.mono QC.out ?_
  rintro e w1 ⟨rfl, hb1⟩
  have bel1 := bthen bel hb1
  have HR1 : Hid (MAt w1 O m da n c) := HR.out.below hb1
  have HX1 : Hid (Boxed w1 B0 V x) := HXB.out.old hb1
  have HY1 : Hid (Boxed w1 (B0 + 1) U y) := HYB.out.old hb1
  clear hb1 QC HR HXB HYB HW
  go_upto_region 4 with fail
  refine MixH.start (fun A => Below w1.heap.size w1 A) (by kernel_rfl) ?_
  obtain ⟨wA, hwA⟩ : ∃ wA, wA = w1.drew := ⟨_, rfl⟩
  have hS : Below w1.heap.size w1 wA := by rw [hwA]; exact (Below.refl _ _).drew
  rw [← hwA]
  clear hwA
  refine MixH.takes [true] 11 (by kernel_rfl) (by kernel_rfl) (by decide) (by kernel_rfl) hS (fun K hK => ?_)
  simp only [Mix.pick]
  repeat (go_big_quiet_step (fail))
  refine wpQuiet_nil (hK _ ?_)
  clear hK K
  refine MixH.take 10 1 _ (.int .i64 m.v) rfl (by kernel_rfl) (by kernel_rfl) (by kernel_rfl) (by kernel_rfl) (yields_int (.tmp 20) rfl ⟨O, 0, none⟩ _ rfl rfl (fun A hA => (HR1.out.below hA).c0)) hS (fun a' ha => ?_)
  simp only [Act.put, List.setIfInBounds_toArray, List.set_cons_succ, List.set_cons_zero] at ha
  subst ha
  refine MixH.take 9 2 _ (.agg (ipCells V x)) rfl (by kernel_rfl) (by kernel_rfl) (by kernel_rfl) (by kernel_rfl) (yields_ip (.tmp 3) rfl B0 V x rfl rfl (fun A hA => HX1.out.old hA)) hS (fun a' ha => ?_)
  simp only [Act.put, List.setIfInBounds_toArray, List.set_cons_succ, List.set_cons_zero] at ha
  subst ha
  refine MixH.take 8 3 _ (.agg (ipCells U y)) rfl (by kernel_rfl) (by kernel_rfl) (by kernel_rfl) (by kernel_rfl) (yields_ip (.tmp 4) rfl (B0 + 1) U y rfl rfl (fun A hA => HY1.out.old hA)) hS (fun a' ha => ?_)
  simp only [Act.put, List.setIfInBounds_toArray, List.set_cons_succ, List.set_cons_zero] at ha
  subst ha
  refine MixH.take 7 4 _ (.agg (mC m da n c)) rfl (by kernel_rfl) (by kernel_rfl) (by kernel_rfl) (by kernel_rfl) (yields_m8 (.tmp 5) rfl O m da n c rfl rfl (fun A hA => HR1.out.below hA)) hS (fun a' ha => ?_)
  simp only [Act.put, List.setIfInBounds_toArray, List.set_cons_succ, List.set_cons_zero] at ha
  subst ha
  refine MixH.one [false, false, false, false, false, true] 6 5 _ rfl rfl (by kernel_rfl) (by kernel_rfl) (fun K hK => ?_)
  simp only [Mix.pick]
  have Q1 : Hid _ := size_any m da n c wA HK.out.sm
  go_wp2_with fail
  refine Calls.mono Q1.out ?_
  rintro e w2 ⟨rfl, hb1⟩
  replace hS := bthen hS hb1
  clear Q1 hb1
  go_wp2
  refine ⟨rfl, hK _ _ hS ?_⟩
  clear hK K
  refine MixH.one [false, false, false, false, false, false, true] 5 6 _ rfl rfl (by kernel_rfl) (by kernel_rfl) (fun K hK => ?_)
  simp only [Mix.pick]
  have Q1 : Hid _ := icPseudo_any m.v V U x y (8 + n) w2 HV.out (by omega)
  go_wp2_with fail
  refine Calls.mono Q1.out ?_
  rintro e w3 ⟨p, rfl, hb1, hp1, hp2⟩
  have HPO : Hid (psX m.v V U = 0 → OwnB w3 w.heap.size p (psB m.v V U x y (8 + n)).length (psB m.v V U x y (8 + n))) := fun h => owns_mono (hp1 h) (Nat.le_trans bel1.size hS.size)
  have HPN : Hid (psX m.v V U ≠ 0 → p = .slice none 0 0) := hp2
  replace hS := bthen hS hb1
  clear Q1 hb1 hp1 hp2
  go_wp2
  refine ⟨rfl, hK _ _ hS ?_⟩
  clear hK K
  refine MixH.takes [false, false, false, false, false, false, false, true] 4 (by kernel_rfl) (by kernel_rfl) (by decide) (by kernel_rfl) hS (fun K hK => ?_)
  simp only [Mix.pick]
  repeat (go_big_quiet_step (fail))
  refine wpQuiet_nil (hK _ ?_)
  clear hK K
  refine MixH.takes [false, false, false, false, false, false, false, false, true, true] 2 (by kernel_rfl) (by kernel_rfl) (by decide) (by kernel_rfl) hS (fun K hK => ?_)
  simp only [Mix.pick]
  repeat (go_big_quiet_step (fail))
  refine wpQuiet_nil (hK _ ?_)
  clear hK K
  refine MixH.takes [false, false, false, false, false, false, false, false, false, false, true] 1 (by kernel_rfl) (by kernel_rfl) (by decide) (by kernel_rfl) hS (fun K hK => ?_)
  simp only [Mix.pick]
  repeat (go_big_quiet_step (fail))
  refine wpQuiet_nil (hK _ ?_)
  clear hK K
  refine MixH.takes [false, false, false, false, false, false, false, false, false, false, false, true] 0 (by kernel_rfl) (by kernel_rfl) (by decide) (by kernel_rfl) hS (fun K hK => ?_)
  simp only [Mix.pick]
  repeat (go_big_quiet_step (fail))
  refine wpQuiet_nil (hK _ ?_)
  clear hK K
  refine MixH.done (by kernel_rfl) ?_
  have bel2 := bthen bel1 hS
  have HR2 : Hid (MAt w3 O m da n c) := HR1.out.below hS
  clear hS HX1 HY1 HR1
  by_cases z : psX m.v V U = 0
  case neg =>
    obtain ⟨px, hpx⟩ : ∃ px, px = psX m.v V U := ⟨_, rfl⟩
    rw [← hpx] at HEQ z ⊢
    have b1 : ((px : Int) != 0) = true := by rw [bne_iff_ne]; omega
    obtain rfl := HPN.out (by rw [← hpx]; exact z)
    have HZ : Hid (E ≠ 0) := by rw [HEQ.out]; exact z
    clear z hpx HPO HPN
    go_wp2
    go_ret2
    exact ⟨_, E, (by rw [HEQ.out]; rfl), rfl, bel2, .inr ⟨HZ.out, rfl⟩⟩
  have HPB := HPO.out z
  have HPSZ : Hid (psX m.v V U = 0) := z
  rw [z] at HEQ ⊢
  obtain ⟨pb, hpb⟩ : ∃ pb, pb = psB m.v V U x y (8 + n) := ⟨_, rfl⟩
  rw [← hpb] at HPB
  have HPBE : Hid (pb = psB m.v V U x y (8 + n)) := hpb
  obtain ⟨pl, hpl⟩ : ∃ pl, pl = pb.length := ⟨_, rfl⟩
  have hpl40 : pl ≤ 40 := by rw [hpl, hpb]; exact psB_len _ _ _ _ _ _
  rw [← hpl] at HPB
  have HPL : Hid (pb.length = pl) := hpl.symm
  obtain ⟨pa, pcp, hpv⟩ := owns_shape HPB
  subst hpv
  have HPB3 : Hid (OwnB w3 w.heap.size (.slice pa pl pcp) pl pb) := HPB
  clear z HPO HPN hpb hpl HPB
  have QZ : Hid _ := size_any m da n c w3 HK.out.sm
  go_wp2_with (first | (refine wpList_load_m8 _ rfl O m da n c rfl HR2.out rfl ?_))
  refine Calls.mono QZ.out ?_
  rintro e w4 ⟨rfl, hb4⟩
  have bel4 := bthen bel2 hb4
  have HR4 : Hid (MAt w4 O m da n c) := HR2.out.below hb4
  have HPB4 : Hid (OwnB w4 w.heap.size (.slice pa pl pcp) pl pb) := own_below HPB3.out hb4
  have QN : Hid _ := newB_ok (8 + n) w4 (by omega)
  clear hb4 QZ HR2 HPB3
  go_wp2_with fail
  refine Calls.mono QN.out ?_
  rintro e w5 ⟨rfl, hB5, hw5⟩
  have hb5 : Below w4.heap.size w4 w5 := by rw [hw5]; exact (Below.refl _ _).alloc (Nat.le_refl _) _
  have bel5 := bthen bel4 hb5
  have HS5 : Hid (w5.heap.size = w4.heap.size + 1) := by show _ = _; rw [hw5]; simp
  obtain ⟨B, hBB⟩ : ∃ B, B = w4.heap.size := ⟨_, rfl⟩
  rw [← hBB] at hB5 ⊢
  have HBB : Hid (B = w4.heap.size) := hBB
  have HOB : Hid (O < B) := by rw [hBB]; exact HR4.out.lt
  have HBLD5 : Hid (Bld w5 B (.slice none 0 0) (8 + n) []) := hB5
  have HR5 : Hid (MAt w5 O m da n c) := HR4.out.below hb5
  have HPB5 : Hid (OwnB w5 w.heap.size (.slice pa pl pcp) pl pb) := own_below HPB4.out hb5
  have g0 : w5.cell? ⟨0, 0, none⟩ = some (.int .i64 8) := HWID.out w5 bel5 0 _ rfl
  have g1 : w5.cell? ⟨0, 1, none⟩ = some (.int .i64 8) := HWID.out w5 bel5 1 _ rfl
  have g2 : w5.cell? ⟨0, 2, none⟩ = some (.int .i64 16) := HWID.out w5 bel5 2 _ rfl
  have g3 : w5.cell? ⟨0, 3, none⟩ = some (.int .i64 32) := HWID.out w5 bel5 3 _ rfl
  have HPBLT : Hid (∀ z, pa = some z → z.block < w4.heap.size) := fun z hz => by
    have := HPB4.out.lt z.block (by rw [hz]; rfl)
    exact this.2
  obtain ⟨w6, hw6⟩ : ∃ w6, w6 = w5.alloc (.cells #[.int .i64 8, .int .i64 8, .int .i64 16, .int .i64 32] 109) := ⟨_, rfl⟩
  have hb6 : Below w5.heap.size w5 w6 := by rw [hw6]; exact (Below.refl _ _).alloc (Nat.le_refl _) _
  have bel6 := bthen bel5 hb6
  have HS8 : Hid (Seg .i64 w6 (some ⟨w5.heap.size, 0, none⟩) (toI I8.ws8)) := by rw [hw6]; exact wid8_seg w5
  have HW6 : Hid (w5.alloc (.cells #[.int .i64 8, .int .i64 8, .int .i64 16, .int .i64 32] 109) = w6) := hw6.symm
  have HR6 : Hid (MAt w6 O m da n c) := HR5.out.below hb6
  have HPB6 : Hid (OwnB w6 w.heap.size (.slice pa pl pcp) pl pb) := own_below HPB5.out hb6
  have HBLD6 : Hid (Bld w6 B (.slice none 0 0) (8 + n) []) := HBLD5.out.below hb6
  obtain ⟨T5, hT5⟩ : ∃ T5, T5 = w5.heap.size := ⟨_, rfl⟩
  have HT5 : Hid (w5.heap.size = T5) := hT5.symm
  rw [← hT5] at HS8
  clear QN hw5 hB5 hBB hb5 hb6 hw6 HR4 HPB4 HR5 HPB5 HBLD5 hT5
  go_upto_region 11 with fail
  rw [HT5.out, HW6.out]
  clear g0 g1 g2 g3 HW6
  refine MixH.start (fun A => Below w6.heap.size w6 A) (by kernel_rfl) ?_
  obtain ⟨wA, hwA⟩ : ∃ wA, wA = w6.drew := ⟨_, rfl⟩
  have hS : Below w6.heap.size w6 wA := by rw [hwA]; exact (Below.refl _ _).drew
  rw [← hwA]
  clear hwA
  refine MixH.takes [true, true, false, true, false, true] 10 (by kernel_rfl) (by kernel_rfl) (by decide) (by kernel_rfl) hS (fun K hK => ?_)
  simp only [Mix.pick]
  repeat (go_big_quiet_step (fail))
  refine wpQuiet_nil (hK _ ?_)
  clear hK K
  refine MixH.take 9 2 _ (.int .i64 m.t) rfl (by kernel_rfl) (by kernel_rfl) (by kernel_rfl) (by kernel_rfl) (yields_int (.tmp 44) rfl ⟨O, 1, none⟩ _ rfl rfl (fun A hA => (HR6.out.below hA).c1)) hS (fun a' ha => ?_)
  simp only [Act.put, List.setIfInBounds_toArray, List.set_cons_succ, List.set_cons_zero] at ha
  subst ha
  refine MixH.take 8 4 _ (.int .i64 m.c) rfl (by kernel_rfl) (by kernel_rfl) (by kernel_rfl) (by kernel_rfl) (yields_int (.tmp 46) rfl ⟨O, 2, none⟩ _ rfl rfl (fun A hA => (HR6.out.below hA).c2)) hS (fun a' ha => ?_)
  simp only [Act.put, List.setIfInBounds_toArray, List.set_cons_succ, List.set_cons_zero] at ha
  subst ha
  refine MixH.take 7 6 _ (.int .i64 m.r) rfl (by kernel_rfl) (by kernel_rfl) (by kernel_rfl) (by kernel_rfl) (yields_int (.tmp 48) rfl ⟨O, 3, none⟩ _ rfl rfl (fun A hA => (HR6.out.below hA).c3)) hS (fun a' ha => ?_)
  simp only [Act.put, List.setIfInBounds_toArray, List.set_cons_succ, List.set_cons_zero] at ha
  subst ha
  refine MixH.one [false, false, false, false, false, false, false, true] 6 7 _ rfl rfl (by kernel_rfl) (by kernel_rfl) (fun K hK => ?_)
  simp only [Mix.pick]
  have hSn := hS.alloc hS.size (.cells #[.int .i64 m.t, .int .i64 m.c, .int .i64 0, .int .i64 m.r] 3)
  have hseg2 := cells14 wA (mF m) 3
  simp only [mF, List.map_cons, List.map_nil] at hseg2
  go_wp2
  clear hS
  have hS := hSn
  refine ⟨rfl, hK _ _ hS ?_⟩
  clear hK K
  obtain ⟨w7, hw7⟩ : ∃ w7, w7 = wA.alloc (.cells #[.int .i64 m.t, .int .i64 m.c, .int .i64 0, .int .i64 m.r] 3) := ⟨_, rfl⟩
  rw [← hw7] at hSn hseg2 hS ⊢
  clear hw7 hSn
  refine MixH.one [false, false, false, false, false, false, false, false, true] 5 8 _ rfl rfl (by kernel_rfl) (by kernel_rfl) (fun K hK => ?_)
  simp only [Mix.pick]
  have Q1 : Hid _ := pack8_ok (some ⟨T5, 0, none⟩) (some ⟨wA.heap.size, 0, none⟩) m w7 HF.out (HS8.out.old hS) hseg2
  go_wp2_with fail
  refine Calls.mono Q1.out ?_
  rintro e w8 ⟨g, gc, rfl, hb1, _, _, ho1⟩
  have HG : Hid (w6.heap.size ≤ g) := Nat.le_trans hS.size (ho1.lt g rfl).1
  have HOH : Hid (OwnB w8 w.heap.size (.slice (some ⟨g, 0, none⟩) 8 gc) 8 (I8.hd m 0)) := owns_mono ho1 (Nat.le_trans bel6.size hS.size)
  replace hS := bthen hS hb1
  clear Q1 hb1 ho1 hseg2
  go_wp2
  refine ⟨rfl, hK _ _ hS ?_⟩
  clear hK K
  refine MixH.takes [false, false, false, false, false, false, false, false, false, true] 4 (by kernel_rfl) (by kernel_rfl) (by decide) (by kernel_rfl) hS (fun K hK => ?_)
  simp only [Mix.pick]
  repeat (go_big_quiet_step (fail))
  refine wpQuiet_nil (hK _ ?_)
  clear hK K
  refine MixH.takes [false, false, false, false, false, false, false, false, false, false, true, true] 2 (by kernel_rfl) (by kernel_rfl) (by decide) (by kernel_rfl) hS (fun K hK => ?_)
  simp only [Mix.pick]
  repeat (go_big_quiet_step (fail))
  refine wpQuiet_nil (hK _ ?_)
  clear hK K
  refine MixH.takes [false, false, false, false, false, false, false, false, false, false, false, false, true] 1 (by kernel_rfl) (by kernel_rfl) (by decide) (by kernel_rfl) hS (fun K hK => ?_)
  simp only [Mix.pick]
  repeat (go_big_quiet_step (fail))
  refine wpQuiet_nil (hK _ ?_)
  clear hK K
  refine MixH.takes [false, false, false, false, false, false, false, false, false, false, false, false, false, true] 0 (by kernel_rfl) (by kernel_rfl) (by decide) (by kernel_rfl) hS (fun K hK => ?_)
  simp only [Mix.pick]
  repeat (go_big_quiet_step (fail))
  refine wpQuiet_nil (hK _ ?_)
  clear hK K
  refine MixH.done (by kernel_rfl) ?_
  have bel7 := bthen bel6 hS
  have HR7 : Hid (MAt w8 O m da n c) := HR6.out.below hS
  have HPB7 : Hid (OwnB w8 w.heap.size (.slice pa pl pcp) pl pb) := own_below HPB6.out hS
  have HBLD7 : Hid (Bld w8 B (.slice none 0 0) (8 + n) []) := HBLD6.out.below hS
  have HGB : Hid (g ≠ B) := by
    have := HG.out
    have := HBLD6.out.lt
    show g ≠ B
    omega
  obtain ⟨hl, hhl⟩ : ∃ hl, hl = I8.hd m 0 := ⟨_, rfl⟩
  rw [← hhl] at HOH
  have HHL : Hid (hl = I8.hd m 0) := hhl
  have HH8 : Hid (hl.length = 8) := by rw [hhl]; rfl
  clear hS hhl HR6 HPB6 HBLD6 HG HS8
  have c4 := HR7.out.c4
  go_wp2_with fail
  have hl256 : ∀ z ∈ hl, z < 256 := by rw [HHL.out]; exact I8.hd_256 m 0 HF.out (by omega)
  have p256 : ∀ z ∈ pb, z < 256 := by rw [HPBE.out]; exact psB_256 _ V U x y _ HPSZ.out (by omega) HX.out HY.out
  have P1 : Part.ok w8 ⟨some ⟨g, 0, none⟩, gc, hl⟩ := HOH.out.part hl256
  have P2 : Part.ok w8 ⟨da, c, m.d⟩ := ⟨(HK.out.old bel7).seg, HK.out.d256, by show m.d.length ≤ c; rw [HK.out.dl]; exact HK.out.cap, HK.out.top⟩
  have P0 : Part.ok w8 ⟨pa, pcp, pb⟩ := HPB7.out.part p256
  have HP0 : Hid (Part.ok w8 ⟨pa, pcp, pb⟩) := P0
  have HP1 : Hid (Part.ok w8 ⟨some ⟨g, 0, none⟩, gc, hl⟩) := P1
  have HP2 : Hid (Part.ok w8 ⟨da, c, m.d⟩) := P2
  have nb0 : ∀ z, toI pb ≠ [] → pa = some z → z.block ≠ B := by
    intro z _ hz
    have := HPBLT.out z hz
    have := HBB.out
    omega
  have nb1 : ∀ z, toI hl ≠ [] → (some ⟨g, 0, none⟩ : Option Addr) = some z → z.block ≠ B := by
    intro z _ hz
    have := Option.some.inj hz
    subst this
    exact HGB.out
  have nb2 : ∀ z, toI m.d ≠ [] → da = some z → z.block ≠ B := by
    intro z hz ha
    have := seg_blk HK.out.seg z hz ha
    have := bel4.size
    have := HBB.out
    omega
  have HNB0 : Hid _ := nb0
  have HNB1 : Hid _ := nb1
  have HNB2 : Hid _ := nb2
  have HBW : Hid (w.heap.size ≤ B) := by have := bel4.size; have := HBB.out; show _ ≤ _; omega
  have HBSB : Hid (∀ z, BS B (.slice none 0 0) z → z = B) := by
    intro z hz
    rcases hz with e | e
    · exact e
    · simp [Value.ownBlock] at e
  have al : ∀ X, Below w8.heap.size w8 (w8.alloc X) := fun X => (Below.refl _ _).alloc (Nat.le_refl _) X
  refine Calls.mono (bytesB_ok B (.slice none 0 0) (8 + n) [] _ 2 [⟨some ⟨g, 0, none⟩, gc, hl⟩, ⟨da, c, m.d⟩] _ (HBLD7.out.below (al _)) (parts_two _ _ w8.heap.size _ _ (by rw [HH8.out]; simp [go_sem]) (by rw [HK.out.dl]; simp [go_sem]) (P1.1.old (al _)) (P2.1.old (al _)) (fun e => by have := HBSB.out _ e; have := HBLD7.out.lt; omega) (fun z hz ha e => HNB1.out z hz ha (HBSB.out _ e)) (fun z hz ha e => HNB2.out z hz ha (HBSB.out _ e))) ?_ (by omega) (by simp)) ?_
  · simp only [flat, List.append_nil, List.length_append, List.length_nil]
    rw [HH8.out, HK.out.dl]
    omega
  rintro e w9 ⟨rfl, v9, hb9, hq9, hc9⟩
  have hc9' : Ch (fun z => z = B) _ w9 := hc9.mono (fun z _ hz => HBSB.out z hz)
  have e9 : [] ++ flat [⟨some ⟨g, 0, none⟩, gc, hl⟩, ⟨da, c, m.d⟩] = hl ++ m.d := by simp [flat]
  rw [e9] at hb9
  have HBLD9 : Hid (Bld w9 B v9 (8 + n) (hl ++ m.d)) := hb9
  have bel9 : Below w.heap.size w w9 := (bel7.alloc bel7.size _).trans (hc9'.below (fun z hz => by have e' : z = B := hz; have := HBW.out; omega) (by simp; have := bel7.size; omega))
  have HP09 : Hid (Part.ok w9 ⟨pa, pcp, pb⟩) := part_ch (HP0.out.old (al _)) hc9' (fun z hz ha e => HNB0.out z hz ha e)
  have HP19 : Hid (Part.ok w9 ⟨some ⟨g, 0, none⟩, gc, hl⟩) := part_ch (HP1.out.old (al _)) hc9' (fun z hz ha e => HNB1.out z hz ha e)
  have HP29 : Hid (Part.ok w9 ⟨da, c, m.d⟩) := part_ch (HP2.out.old (al _)) hc9' (fun z hz ha e => HNB2.out z hz ha e)
  have HR9 : Hid (MAt w9 O m da n c) := (HR7.out.below (al _)).ch hc9' (fun e => by have := HOB.out; have e' : O = B := e; omega)
  have HN9 : Hid (∀ q, v9.ownBlock = some q → w.heap.size ≤ q) := by
    intro q hq
    rcases hq9 q hq with h1 | h1
    · simp [Value.ownBlock] at h1
    · have := bel7.size
      simp at h1
      omega
  have c4b := HR9.out.c4
  clear hl256 p256 P0 P1 P2 nb0 nb1 nb2 hb9 hq9 hc9 hc9' e9 al c4 HR7 HPB7 HBLD7
  go_wp2_with fail
  refine Calls.mono (check_three w9 _ pa (some ⟨g, 0, none⟩) da pl 8 n pcp gc c pb hl m.d rfl HPL.out HH8.out HK.out.dl HP09.out HP19.out HP29.out (by have := HK.out.sm; omega)) ?_
  rintro e w10 ⟨rfl, hb10⟩
  have bel10 := bthen bel9 hb10
  obtain ⟨sm, hsm⟩ : ∃ sm, sm = 65535 - S.fold (S.wv false (pb ++ (hl ++ m.d))) := ⟨_, rfl⟩
  have hsm2 : sm ≤ 65535 := by rw [hsm]; exact Nat.sub_le _ _
  rw [← hsm]
  have HSM : Hid (sm = I8.sm m pb) := by show _ = _; rw [hsm, HHL.out]; rfl
  have HBLD10 : Hid (Bld w10 B v9 (8 + n) (hl ++ m.d)) := HBLD9.out.below hb10
  have u64 : IntKind.u64.wrap (sm : Int) = (sm : Int) := by rw [IntKind.wrap_u64]; omega
  have QPA : Hid _ := patchB_total B v9 (8 + n) (hl ++ m.d) 2 2 sm w10 HBLD10.out (by decide)
  have hte : tE 2 2 sm (hl ++ m.d).length = 0 := by
    rw [List.length_append, HH8.out, HK.out.dl]
    unfold tE
    rw [if_neg (by omega), if_neg (by show ¬ 256 ^ 2 ≤ sm; omega), if_neg (by omega)]
  rw [tL, hte, if_pos rfl] at QPA
  have hsp : spl (hl ++ m.d) (2 : Int).toNat (byN (2 : Int).toNat sm) = I8.ser m pb := by
    show spl _ 2 (byN 2 sm) = _
    rw [HHL.out, spl8 _ _ _ hsm2, HSM.out]
    rfl
  rw [hsp] at QPA
  clear hb10 hsm hte hsp HBLD9 HP09 HP19 HP29 c4b
  go_wp2_with fail
  refine Calls.mono QPA.out ?_
  rintro e w11 ⟨rfl, v11, hb11, hq11, hc11⟩
  have bel11 : Below w.heap.size w w11 := bel10.trans (hc11.below (fun z hz => by
    rcases hz with e | e
    · rw [e]; exact HBW.out
    · exact HN9.out z e) bel10.size)
  have HSL : Hid ((I8.ser m pb).length = 8 + n) := by show _ = _; rw [I8.ser_len, HK.out.dl]
  have QD : Hid _ := doneB_any B v11 (8 + n) (I8.ser m pb) w11 hb11 (by rw [HSL.out]; omega)
  rw [HSL.out] at QD
  clear hb11 hq11 hc11 QPA bel10
  go_wp2_with fail
  refine Calls.mono QD.out ?_
  rintro e w12 ⟨gd, rfl, ho12, hb12⟩
  have HF12 : Hid (Below w.heap.size w w12) := bthen bel11 hb12
  have HO12 : Hid _ := owns_le ho12 bel11.size
  clear ho12 hb12 QD bel11
  go_wp2
  go_ret2
  exact ⟨_, E, (by rw [HEQ.out]; rfl), rfl, HF12.out, .inl ⟨HEQ.out, gd, rfl, (by rw [← HPBE.out]; exact HO12.out)⟩⟩
end Go.Proofs.YtijipfciimcnpaaDoor
