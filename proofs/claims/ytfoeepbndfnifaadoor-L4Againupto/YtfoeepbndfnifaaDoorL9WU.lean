/-
  joined of two and of three parts; l4.PutUdp.
-/
import Derived.Test.YtfoeepbndfnifaaDoorL9PT
namespace Go.Proofs.YtfoeepbndfnifaaDoor
open Go.RowKit
open L4 (U9 T9)

theorem seg_blk {w : World} {k : IntKind} {a : Option Addr} {zs : List Int} (h : Seg k w a zs) (z : Addr) (hz : zs ≠ []) (ha : a = some z) : z.block < w.heap.size := by
  rcases h with h0 | ⟨g, f, e, hc⟩
  · exact absurd h0 hz
  · rw [ha] at e
    have := Option.some.inj e
    subst this
    exact World.block_lt_of_cell? w _ (hc 0 (List.length_pos_iff.2 hz))
theorem part_ch {S : Nat → Prop} {A B : World} {p : Part} (h : p.ok A) (k : Ch S A B) (hS : ∀ z, toI p.l ≠ [] → p.a = some z → ¬ S z.block) : p.ok B := ⟨k.seg h.1 hS, h.2⟩
theorem joined_two (w : World) (B : Nat) (a1 a2 : Option Addr) (n1 n2 c1 c2 : Nat) (l1 l2 : List Nat) (size at' k : Nat) (hB : B = w.heap.size) (hl1 : l1.length = n1) (hl2 : l2.length = n2) (h1 : Part.ok w ⟨a1, c1, l1⟩) (h2 : Part.ok w ⟨a2, c2, l2⟩) (hs : n1 + n2 = size) (hz : size ≤ 65535) (ha : at' + 2 ≤ size) (hk : k ≤ 65535) :
    Calls Tryd.prog 48 #[.int .i64 size, .int .i64 at', .int .i64 k, .slice (some ⟨B, 0, none⟩) 2 2] (w.alloc (.cells #[.slice a1 n1 c1, .slice a2 n2 c2] 25)) fun e w' => ∃ g, e = .returned (.tuple #[.slice (some ⟨g, 0, none⟩) size size, .int .i64 0]) ∧ OwnB w' w.heap.size (.slice (some ⟨g, 0, none⟩) size size) size (spl (l1 ++ l2) at' (byN 2 k)) ∧ Below w.heap.size w w' := by
  subst hB hl1 hl2
  have hb : Below w.heap.size w (w.alloc (.cells #[.slice a1 l1.length c1, .slice a2 l2.length c2] 25)) := (Below.refl _ _).alloc (Nat.le_refl _) _
  have hsz : (w.alloc (.cells #[.slice a1 l1.length c1, .slice a2 l2.length c2] 25)).heap.size = w.heap.size + 1 := by simp
  have hp : PartsAt (w.alloc (.cells #[.slice a1 l1.length c1, .slice a2 l2.length c2] 25)) (fun q => (w.alloc (.cells #[.slice a1 l1.length c1, .slice a2 l2.length c2] 25)).heap.size ≤ q) (some ⟨w.heap.size, 0, none⟩) [⟨a1, c1, l1⟩, ⟨a2, c2, l2⟩] := by
    refine .inr ⟨w.heap.size, 0, rfl, by rw [hsz]; omega, by rw [hsz]; omega, fun i p hp => ?_⟩
    match i, hp with
    | 0, hp =>
      simp at hp
      subst hp
      refine ⟨by simp [go_sem], h1.1.old hb, fun z hz hz2 => ?_⟩
      have := seg_blk h1.1 z hz hz2
      rw [hsz]
      omega
    | 1, hp =>
      simp at hp
      subst hp
      refine ⟨by simp [go_sem], h2.1.old hb, fun z hz hz2 => ?_⟩
      have := seg_blk h2.1 z hz hz2
      rw [hsz]
      omega
    | i + 2, hp => simp at hp
  have hf : flat [⟨a1, c1, l1⟩, ⟨a2, c2, l2⟩] = l1 ++ l2 := by simp [flat]
  refine (joined_any size at' k (some ⟨w.heap.size, 0, none⟩) 2 2 [⟨a1, c1, l1⟩, ⟨a2, c2, l2⟩] _ rfl hp (by rw [hf]; simp only [List.length_append]; omega) hz ha hk (by omega)).mono ?_
  rintro e w' ⟨g, rfl, ho, hbb⟩
  rw [hf] at ho
  exact ⟨g, rfl, owns_le ho (by rw [hsz]; omega), bthen hb hbb⟩
theorem joined_three (w : World) (B : Nat) (a1 a2 a3 : Option Addr) (n1 n2 n3 c1 c2 c3 : Nat) (l1 l2 l3 : List Nat) (size at' k : Nat) (hB : B = w.heap.size) (hl1 : l1.length = n1) (hl2 : l2.length = n2) (hl3 : l3.length = n3) (h1 : Part.ok w ⟨a1, c1, l1⟩) (h2 : Part.ok w ⟨a2, c2, l2⟩) (h3 : Part.ok w ⟨a3, c3, l3⟩) (hs : n1 + n2 + n3 = size) (hz : size ≤ 65535) (ha : at' + 2 ≤ size) (hk : k ≤ 65535) :
    Calls Tryd.prog 48 #[.int .i64 size, .int .i64 at', .int .i64 k, .slice (some ⟨B, 0, none⟩) 3 3] (w.alloc (.cells #[.slice a1 n1 c1, .slice a2 n2 c2, .slice a3 n3 c3] 25)) fun e w' => ∃ g, e = .returned (.tuple #[.slice (some ⟨g, 0, none⟩) size size, .int .i64 0]) ∧ OwnB w' w.heap.size (.slice (some ⟨g, 0, none⟩) size size) size (spl (l1 ++ (l2 ++ l3)) at' (byN 2 k)) ∧ Below w.heap.size w w' := by
  subst hB hl1 hl2 hl3
  have hb : Below w.heap.size w (w.alloc (.cells #[.slice a1 l1.length c1, .slice a2 l2.length c2, .slice a3 l3.length c3] 25)) := (Below.refl _ _).alloc (Nat.le_refl _) _
  have hsz : (w.alloc (.cells #[.slice a1 l1.length c1, .slice a2 l2.length c2, .slice a3 l3.length c3] 25)).heap.size = w.heap.size + 1 := by simp
  have hp : PartsAt (w.alloc (.cells #[.slice a1 l1.length c1, .slice a2 l2.length c2, .slice a3 l3.length c3] 25)) (fun q => (w.alloc (.cells #[.slice a1 l1.length c1, .slice a2 l2.length c2, .slice a3 l3.length c3] 25)).heap.size ≤ q) (some ⟨w.heap.size, 0, none⟩) [⟨a1, c1, l1⟩, ⟨a2, c2, l2⟩, ⟨a3, c3, l3⟩] := by
    refine .inr ⟨w.heap.size, 0, rfl, by rw [hsz]; omega, by rw [hsz]; omega, fun i p hp => ?_⟩
    match i, hp with
    | 0, hp =>
      simp at hp
      subst hp
      refine ⟨by simp [go_sem], h1.1.old hb, fun z hz hz2 => ?_⟩
      have := seg_blk h1.1 z hz hz2
      rw [hsz]
      omega
    | 1, hp =>
      simp at hp
      subst hp
      refine ⟨by simp [go_sem], h2.1.old hb, fun z hz hz2 => ?_⟩
      have := seg_blk h2.1 z hz hz2
      rw [hsz]
      omega
    | 2, hp =>
      simp at hp
      subst hp
      refine ⟨by simp [go_sem], h3.1.old hb, fun z hz hz2 => ?_⟩
      have := seg_blk h3.1 z hz hz2
      rw [hsz]
      omega
    | i + 3, hp => simp at hp
  have hf : flat [⟨a1, c1, l1⟩, ⟨a2, c2, l2⟩, ⟨a3, c3, l3⟩] = l1 ++ (l2 ++ l3) := by simp [flat]
  refine (joined_any size at' k (some ⟨w.heap.size, 0, none⟩) 3 3 [⟨a1, c1, l1⟩, ⟨a2, c2, l2⟩, ⟨a3, c3, l3⟩] _ rfl hp (by rw [hf]; simp only [List.length_append]; omega) hz ha hk (by omega)).mono ?_
  rintro e w' ⟨g, rfl, ho, hbb⟩
  rw [hf] at ho
  exact ⟨g, rfl, owns_le ho (by rw [hsz]; omega), bthen hb hbb⟩
theorem by2 (s : Nat) (hs : s ≤ 65535) : byN 2 s = [s / 256, s % 256] := by
  simp only [byN, List.range_succ, List.range_zero, List.nil_append, List.map_cons, List.map_nil, List.cons_append]
  simp
  omega
theorem splU (u : U9) (s : Nat) (r : List Nat) (hs : s ≤ 65535) : spl (L4.uHd u 0 ++ r) 6 (byN 2 s) = L4.uHd u s ++ r := by
  rw [by2 s hs]
  simp [spl, L4.uHd]
theorem splT (t : T9) (s : Nat) (r : List Nat) (hs : s ≤ 65535) : spl (L4.tHd t 0 ++ r) 16 (byN 2 s) = L4.tHd t s ++ r := by
  rw [by2 s hs]
  simp [spl, L4.tHd]
/-- what is written, or nothing -/
def WRes (w : World) (L : Nat) (l : List Nat) (er : Nat) (v : Value) (w' : World) : Prop :=
  (er = 0 ∧ ∃ g, v = .slice (some ⟨g, 0, none⟩) L L ∧ OwnB w' w.heap.size (.slice (some ⟨g, 0, none⟩) L L) L l) ∨ (er ≠ 0 ∧ v = .slice none 0 0)
set_option maxHeartbeats 6400000 in
set_option maxRecDepth 100000 in
theorem putU_any (V U : Int) (x y : Nat → Nat) (u : U9) (da : Option Addr) (n c : Nat) (w : World) (hw : UW w) (k : DOk w u.d da n c) (hx : ∀ i, i < 16 → x i < 256) (hy : ∀ i, i < 16 → y i < 256) :
    Calls Tryd.prog 23 #[.agg (ipCells V x), .agg (ipCells U y), .agg (uC u da n c)] w fun e w' => ∃ v er, e = .returned (.tuple #[v, .int .i64 (er : Nat)]) ∧ er = L4.uPutE (psOk V U x y) V u ∧ Below w.heap.size w w' ∧ WRes w (8 + n) (L4.uSer u (psL V U x y 17 ((8 + n : Nat) : Int))) er v w' := by
  obtain ⟨A, hA⟩ : ∃ A, A = ipCells V x := ⟨_, rfl⟩
  obtain ⟨C, hC⟩ : ∃ C, C = ipCells U y := ⟨_, rfl⟩
  have hx1 := boxed_new w V x 24
  have hy1 := boxed_new (w.alloc (.cells (ipCells V x) 24)) U y 24
  rw [World.size_alloc] at hy1
  have hx2 := hx1.old ((Below.refl _ _).alloc (Nat.le_refl _) (.cells (ipCells U y) 24))
  clear hx1
  rw [← hA] at hx2 hy1 ⊢
  rw [← hC] at hx2 hy1 ⊢
  obtain ⟨M, hM⟩ : ∃ M, M = uC u da n c := ⟨_, rfl⟩
  have s2 : ((w.alloc (.cells A 24)).alloc (.cells C 24)).heap.size = w.heap.size + 1 + 1 := by simp
  have hr := uAt_new ((w.alloc (.cells A 24)).alloc (.cells C 24)) u da n c
  rw [s2, ← hM] at hr
  have b3 : Below ((w.alloc (.cells A 24)).alloc (.cells C 24)).heap.size ((w.alloc (.cells A 24)).alloc (.cells C 24)) (((w.alloc (.cells A 24)).alloc (.cells C 24)).alloc (.cells M 37)) := (Below.refl _ _).alloc (Nat.le_refl _) _
  have hx3 := hx2.old b3
  have hy3 := hy1.old b3
  have bel : Below w.heap.size w (((w.alloc (.cells A 24)).alloc (.cells C 24)).alloc (.cells M 37)) := (((Below.refl _ _).alloc (Nat.le_refl _) _).alloc (by simp) _).alloc (by simp; omega) _
  clear hx2 hy1 b3 s2
  obtain ⟨W, hW⟩ : ∃ W, W = ((w.alloc (.cells A 24)).alloc (.cells C 24)).alloc (.cells M 37) := ⟨_, rfl⟩
  rw [← hW] at hr hx3 hy3 bel
  obtain ⟨B, hB⟩ : ∃ B, B = w.heap.size := ⟨_, rfl⟩
  have HB : Hid (w.heap.size = B) := hB.symm
  rw [← hB] at hr hx3 hy3
  obtain ⟨O, hO⟩ : ∃ O, O = B + 1 + 1 := ⟨_, rfl⟩
  rw [← hO] at hr
  have HW : Hid (((w.alloc (.cells A 24)).alloc (.cells C 24)).alloc (.cells M 37) = W) := hW.symm
  have HO : Hid (B + 1 + 1 = O) := hO.symm
  have HR : Hid (UAt W O u da n c) := hr
  have HX : Hid (∀ i, i < 16 → x i < 256) := hx
  have HY : Hid (∀ i, i < 16 → y i < 256) := hy
  have HXB : Hid (Boxed W B V x) := hx3
  have HYB : Hid (Boxed W (B + 1) U y) := hy3
  rw [← hM]
  clear hW hr hx3 hy3 hO hx hy hA hC hM hB
  have HK : Hid (DOk w u.d da n c) := k
  have HWID : Hid (∀ A, Below w.heap.size w A → UW A) := fun A hA => hw.old hA
  obtain ⟨E, hE⟩ : ∃ E, E = L4.uPutE (psOk V U x y) V u := ⟨_, rfl⟩
  rw [← hE]
  have HEQ : Hid _ := hE
  unfold L4.uPutE at HEQ
  have QF : Hid _ := fit_any V U x y W
  have HPS : Hid (psOk V U x y = true → ∀ (m : Nat) (A : World), m ≤ 65535 → Calls Tryd.prog 45 #[.agg (ipCells V x), .agg (ipCells U y), .int .i64 17, .int .i64 m] A fun e w' => ∃ v, e = .returned (.tuple #[v, .int .i64 0]) ∧ OwnB w' A.heap.size v (psL V U x y 17 (m : Nat)).length (psL V U x y 17 (m : Nat)) ∧ Below A.heap.size A w') := by
    intro hok m A hm
    refine (pseudo_any V U x y 17 m A).mono ?_
    rintro e w' ⟨v, rfl, h1, _, h2⟩
    exact ⟨v, by rw [psE_ok hok (by simp [psIn]; omega)], h1, h2⟩
  obtain ⟨ok, hok⟩ : ∃ ok, ok = psOk V U x y := ⟨_, rfl⟩
  rw [← hok] at QF HEQ HPS
  clear hok hE hw k
  go_enter Tryd.func23, Tryd.ntmps23
  go_upto_region 1 with fail
  rw [HB.out, HO.out, HW.out]
  go_wp2_with (first | (refine wpList_load_ip (.tmp 3) rfl B V x rfl HXB.out rfl ?_) | (refine wpList_load_ip (.tmp 4) rfl (B + 1) U y rfl HYB.out rfl ?_))
  refine Calls.mono QF.out ?_
  rintro e w1 ⟨rfl, hb1⟩
  have bel1 := bthen bel hb1
  have HR1 : Hid (UAt w1 O u da n c) := HR.out.below hb1
  have HX1 : Hid (Boxed w1 B V x) := HXB.out.old hb1
  have HY1 : Hid (Boxed w1 (B + 1) U y) := HYB.out.old hb1
  clear QF hb1 HXB HYB HR HW
  cases ok with
  | false =>
    have HZ : Hid (E ≠ 0) := by show E ≠ 0; rw [HEQ.out]; simp
    have HE : Hid (E = 20) := HEQ.out
    clear HEQ
    go_wp2
    go_ret2
    exact ⟨_, E, (by rw [HE.out]; rfl), rfl, bel1, .inr ⟨HZ.out, rfl⟩⟩
  | true =>
  rw [if_pos rfl] at HEQ
  have HPS2 : Hid _ := HPS.out rfl
  have QC : Hid _ := chkU_any V u da n c w1 HK.out.dl HK.out.sm
  obtain ⟨R, hR⟩ : ∃ R, R = L4.uChk V u := ⟨_, rfl⟩
  rw [← hR] at QC HEQ
  have HCHKe : Hid (R = L4.uChk V u) := hR
  have hver := HX1.out.ver
  clear HPS hR
  go_wp2_with (first | (refine wpList_load_u9 _ rfl O u da n c rfl HR1.out rfl ?_))
  refine Calls.mono QC.out ?_
  rintro e w2 ⟨rfl, hb2⟩
  have bel2 := bthen bel1 hb2
  have HR2 : Hid (UAt w2 O u da n c) := HR1.out.below hb2
  have HX2 : Hid (Boxed w2 B V x) := HX1.out.old hb2
  have HY2 : Hid (Boxed w2 (B + 1) U y) := HY1.out.old hb2
  clear QC hb2 HR1 HX1 HY1 hver
  by_cases hz : R = 0
  case neg =>
    have b1 : ((R : Int) != 0) = true := by rw [bne_iff_ne]; omega
    have HZ : Hid (E ≠ 0) := by rw [HEQ.out]; exact hz
    clear hz
    go_wp2
    go_ret2
    exact ⟨_, E, (by rw [HEQ.out]; rfl), rfl, bel2, .inr ⟨HZ.out, rfl⟩⟩
  subst hz
  have HCHK : Hid (L4.uChk V u = 0) := HCHKe.out.symm
  obtain ⟨sz, hsz⟩ : ∃ sz, sz = 8 + n := ⟨_, rfl⟩
  have HSZ : Hid (sz = 8 + n) := hsz
  have hsz65 : sz ≤ 65535 := by have := (L4.uChk_zero HCHK.out).2.2.2.2; rw [HK.out.dl] at this; omega
  have hsz8 : 8 ≤ sz := by omega
  have QZ : Hid _ := udpSize_any u da n c w2 HK.out.sm
  rw [← hsz] at QZ
  clear HCHKe hsz
  go_wp2_with (first | (refine wpList_load_u9 _ rfl O u da n c rfl HR2.out rfl ?_))
  refine Calls.mono QZ.out ?_
  rintro e w5 ⟨rfl, hb5⟩
  have bel5 := bthen bel2 hb5
  have HR5 : Hid (UAt w5 O u da n c) := HR2.out.below hb5
  have HX5 : Hid (Boxed w5 B V x) := HX2.out.old hb5
  have HY5 : Hid (Boxed w5 (B + 1) U y) := HY2.out.old hb5
  clear QZ hb5 HR2 HX2 HY2
  have g0 : w5.cell? ⟨0, 0, none⟩ = some (.int .i64 16) := HWID.out w5 bel5 0 _ rfl
  have g1 : w5.cell? ⟨0, 1, none⟩ = some (.int .i64 16) := HWID.out w5 bel5 1 _ rfl
  have g2 : w5.cell? ⟨0, 2, none⟩ = some (.int .i64 16) := HWID.out w5 bel5 2 _ rfl
  have g3 : w5.cell? ⟨0, 3, none⟩ = some (.int .i64 16) := HWID.out w5 bel5 3 _ rfl
  obtain ⟨w6, hw6⟩ : ∃ w6, w6 = w5.alloc (.cells #[.int .i64 16, .int .i64 16, .int .i64 16, .int .i64 16] 77) := ⟨_, rfl⟩
  have hb6 : Below w5.heap.size w5 w6 := by rw [hw6]; exact (Below.refl _ _).alloc (Nat.le_refl _) _
  have bel6 := bthen bel5 hb6
  have HS8 : Hid (Seg .i64 w6 (some ⟨w5.heap.size, 0, none⟩) (toI L4U.ws)) := by rw [hw6]; exact segU w5
  have HW6 : Hid (w5.alloc (.cells #[.int .i64 16, .int .i64 16, .int .i64 16, .int .i64 16] 77) = w6) := hw6.symm
  have HR6 : Hid (UAt w6 O u da n c) := HR5.out.below hb6
  have HX6 : Hid (Boxed w6 B V x) := HX5.out.old hb6
  have HY6 : Hid (Boxed w6 (B + 1) U y) := HY5.out.old hb6
  obtain ⟨T5, hT5⟩ : ∃ T5, T5 = w5.heap.size := ⟨_, rfl⟩
  have HT5 : Hid (w5.heap.size = T5) := hT5.symm
  rw [← hT5] at HS8
  clear hb6 hw6 HR5 HX5 HY5 hT5
  go_upto_region 8 with fail
  rw [HT5.out, HW6.out]
  clear g0 g1 g2 g3 HW6
  refine MixH.start (fun A => Below w6.heap.size w6 A) (by kernel_rfl) ?_
  obtain ⟨wA, hwA⟩ : ∃ wA, wA = w6.drew := ⟨_, rfl⟩
  have hS : Below w6.heap.size w6 wA := by rw [hwA]; exact (Below.refl _ _).drew
  rw [← hwA]
  clear hwA
  refine MixH.takes [true, true, false, true, false, true] 9 (by kernel_rfl) (by kernel_rfl) (by decide) (by kernel_rfl) hS (fun K hK => ?_)
  simp only [Mix.pick]
  repeat (go_big_quiet_step (fail))
  refine wpQuiet_nil (hK _ ?_)
  clear hK K
  refine MixH.take 8 2 _ (.int .i64 u.sp) rfl (by kernel_rfl) (by kernel_rfl) (by kernel_rfl) (by kernel_rfl) (yields_int (.tmp 32) rfl ⟨O, 0, none⟩ _ rfl rfl (fun A hA => (HR6.out.below hA).c0)) hS (fun a' ha => ?_)
  simp only [Act.put, List.setIfInBounds_toArray, List.set_cons_succ, List.set_cons_zero] at ha
  subst ha
  refine MixH.take 7 4 _ (.int .i64 u.dp) rfl (by kernel_rfl) (by kernel_rfl) (by kernel_rfl) (by kernel_rfl) (yields_int (.tmp 34) rfl ⟨O, 1, none⟩ _ rfl rfl (fun A hA => (HR6.out.below hA).c1)) hS (fun a' ha => ?_)
  simp only [Act.put, List.setIfInBounds_toArray, List.set_cons_succ, List.set_cons_zero] at ha
  subst ha
  refine MixH.one [false, false, false, false, false, false, true] 6 6 _ rfl rfl (by kernel_rfl) (by kernel_rfl) (fun K hK => ?_)
  simp only [Mix.pick]
  have hSn := hS.alloc hS.size (.cells #[.int .i64 u.sp, .int .i64 u.dp, .int .i64 (sz : Nat), .int .i64 0] 3)
  have hseg2 := cells14 wA (uF u sz) 3
  simp only [uF, List.map_cons, List.map_nil] at hseg2
  go_wp2
  clear hS
  have hS := hSn
  refine ⟨rfl, hK _ _ hS ?_⟩
  clear hK K
  obtain ⟨w7, hw7⟩ : ∃ w7, w7 = wA.alloc (.cells #[.int .i64 u.sp, .int .i64 u.dp, .int .i64 (sz : Nat), .int .i64 0] 3) := ⟨_, rfl⟩
  rw [← hw7] at hSn hseg2 hS ⊢
  clear hw7 hSn
  refine MixH.one [false, false, false, false, false, false, false, true] 5 7 _ rfl rfl (by kernel_rfl) (by kernel_rfl) (fun K hK => ?_)
  simp only [Mix.pick]
  have Q1 : Hid _ := packU_ok (some ⟨T5, 0, none⟩) (some ⟨wA.heap.size, 0, none⟩) u sz w7 (by rw [HK.out.dl]; exact HSZ.out.symm) ⟨V, HCHK.out⟩ (HS8.out.old hS) hseg2
  go_wp2_with fail
  refine Calls.mono Q1.out ?_
  rintro e w8 ⟨g, gc, rfl, hb1, _, _, ho1⟩
  have HOH : Hid (OwnB w8 w.heap.size (.slice (some ⟨g, 0, none⟩) 8 gc) 8 (L4.uHd u 0)) := owns_mono ho1 (Nat.le_trans bel6.size hS.size)
  replace hS := bthen hS hb1
  clear Q1 hb1 ho1 hseg2
  go_wp2
  refine ⟨rfl, hK _ _ hS ?_⟩
  clear hK K
  refine MixH.takes [false, false, false, false, false, false, false, false, true] 4 (by kernel_rfl) (by kernel_rfl) (by decide) (by kernel_rfl) hS (fun K hK => ?_)
  simp only [Mix.pick]
  repeat (go_big_quiet_step (fail))
  refine wpQuiet_nil (hK _ ?_)
  clear hK K
  refine MixH.takes [false, false, false, false, false, false, false, false, false, true, true] 2 (by kernel_rfl) (by kernel_rfl) (by decide) (by kernel_rfl) hS (fun K hK => ?_)
  simp only [Mix.pick]
  repeat (go_big_quiet_step (fail))
  refine wpQuiet_nil (hK _ ?_)
  clear hK K
  refine MixH.takes [false, false, false, false, false, false, false, false, false, false, false, true] 1 (by kernel_rfl) (by kernel_rfl) (by decide) (by kernel_rfl) hS (fun K hK => ?_)
  simp only [Mix.pick]
  repeat (go_big_quiet_step (fail))
  refine wpQuiet_nil (hK _ ?_)
  clear hK K
  refine MixH.takes [false, false, false, false, false, false, false, false, false, false, false, false, true] 0 (by kernel_rfl) (by kernel_rfl) (by decide) (by kernel_rfl) hS (fun K hK => ?_)
  simp only [Mix.pick]
  repeat (go_big_quiet_step (fail))
  refine wpQuiet_nil (hK _ ?_)
  clear hK K
  refine MixH.done (by kernel_rfl) ?_
  have bel8 := bthen bel6 hS
  have HR8 : Hid (UAt w8 O u da n c) := HR6.out.below hS
  have HX8 : Hid (Boxed w8 B V x) := HX6.out.old hS
  have HY8 : Hid (Boxed w8 (B + 1) U y) := HY6.out.old hS
  have hl256 : ∀ z ∈ L4.uHd u 0, z < 256 := by
    obtain ⟨_, q1, q2, _, q3⟩ := L4.uChk_zero HCHK.out
    exact L4.uHd_256 u 0 q1.2 q2.2 q3 (by omega)
  have HP1w8 : Hid (Part.ok w8 ⟨some ⟨g, 0, none⟩, gc, L4.uHd u 0⟩) := HOH.out.part hl256
  have HP2w8 : Hid (Part.ok w8 ⟨da, c, u.d⟩) := (HK.out.old bel8).part
  have HRw8 : Hid (UAt w8 O u da n c) := HR8.out
  have belw8 := bel8
  clear hS hl256 HR6 HX6 HY6 HS8 HOH
  have c2 := HR8.out.c2
  cases hns : u.ns with
  | true =>
    rw [hns] at c2
    have HSER : Hid (spl (L4.uHd u 0 ++ u.d) 6 (byN 2 0) = L4.uSer u (psL V U x y 17 (sz : Nat))) := by
      show _ = _
      rw [splU u 0 u.d (by omega)]
      unfold L4.uSer L4.uSum
      rw [hns]
      rfl
    clear hns HX8 HY8 HPS2
    have QJ : Hid _ := joined_two w8 w8.heap.size (some ⟨g, 0, none⟩) da 8 n gc c (L4.uHd u 0) u.d sz 6 (0) rfl rfl HK.out.dl HP1w8.out HP2w8.out HSZ.out.symm hsz65 (by omega) (by omega)
    have c3 := HRw8.out.c3
    go_upto_region 17 with fail
    clear c2
    go_wp2_with fail
    refine Calls.mono QJ.out ?_
    rintro e wz ⟨gz, rfl, hoz, hbz⟩
    have HFZ : Hid (Below w.heap.size w wz) := bthen belw8 hbz
    have HOZ : Hid _ := owns_le hoz belw8.size
    clear QJ hoz hbz
    go_wp2
    go_ret2
    exact ⟨_, E, (by rw [HEQ.out]; rfl), rfl, HFZ.out, .inl ⟨HEQ.out, gz, (by rw [← HSZ.out]; rfl), (by rw [← HSZ.out, ← HSER.out]; exact HOZ.out)⟩⟩
  | false =>
    rw [hns] at c2
    have QP : Hid _ := HPS2.out sz w8 hsz65
    have H256 : Hid _ := psL_256 V U x y 17 (sz : Nat) HX.out HY.out
    have HL40 : Hid _ := psL_len V U x y 17 (sz : Nat)
    obtain ⟨pb, hpb⟩ : ∃ pb, pb = psL V U x y 17 (sz : Nat) := ⟨_, rfl⟩
    rw [← hpb] at QP H256 HL40
    have HSERs : Hid (∀ s, s = L4.nz (65535 - S.fold (S.wv false (pb ++ (L4.uHd u 0 ++ u.d)))) → spl (L4.uHd u 0 ++ u.d) 6 (byN 2 s) = L4.uSer u (psL V U x y 17 (sz : Nat))) := by
      intro s hs
      have h65 : s ≤ 65535 := by rw [hs]; exact (L4.nz_le _ (Nat.sub_le _ _)).1
      rw [splU u s u.d h65, ← hpb]
      unfold L4.uSer L4.uSum L4.uRaw
      rw [hns, ← hs]
      rfl
    clear hns HPS2 hpb
    go_upto_region 13 with fail
    clear c2
    go_wp2_with (first | (refine wpList_load_ip (.tmp 3) rfl B V x rfl HX8.out rfl ?_) | (refine wpList_load_ip (.tmp 4) rfl (B + 1) U y rfl HY8.out rfl ?_))
    refine Calls.mono QP.out ?_
    rintro e w9 ⟨v, rfl, ho9, hb9⟩
    obtain ⟨pa, pcp, hpv⟩ := owns_shape ho9
    subst hpv
    have bel9 := bthen bel8 hb9
    have HR9 : Hid (UAt w9 O u da n c) := HR8.out.below hb9
    have P0 : Part.ok w9 ⟨pa, pcp, pb⟩ := OwnB.part ho9 H256.out
    have HP19 : Hid (Part.ok w9 ⟨some ⟨g, 0, none⟩, gc, L4.uHd u 0⟩) := HP1w8.out.old hb9
    have HP29 : Hid (Part.ok w9 ⟨da, c, u.d⟩) := HP2w8.out.old hb9
    have QK : Hid _ := check_three w9 w9.heap.size pa (some ⟨g, 0, none⟩) da pb.length 8 n pcp gc c pb (L4.uHd u 0) u.d rfl rfl rfl HK.out.dl P0 HP19.out HP29.out (by have := HL40.out; have := HSZ.out; omega)
    obtain ⟨pl, hpl⟩ : ∃ pl, pl = pb.length := ⟨_, rfl⟩
    rw [← hpl] at QK ⊢
    have c3 := HR9.out.c3
    clear QP ho9 hb9 P0 hpl HR8 HX8 HY8 HRw8 belw8 HP1w8 HP2w8
    go_wp2_with fail
    refine Calls.mono QK.out ?_
    rintro e w10 ⟨rfl, hb10⟩
    have bel10 := bthen bel9 hb10
    have HR10 : Hid (UAt w10 O u da n c) := HR9.out.below hb10
    have HP110 : Hid (Part.ok w10 ⟨some ⟨g, 0, none⟩, gc, L4.uHd u 0⟩) := HP19.out.old hb10
    have HP210 : Hid (Part.ok w10 ⟨da, c, u.d⟩) := HP29.out.old hb10
    obtain ⟨s0, hs0⟩ : ∃ s0, s0 = 65535 - S.fold (S.wv false (pb ++ (L4.uHd u 0 ++ u.d))) := ⟨_, rfl⟩
    rw [← hs0] at HSERs ⊢
    have hs65 : s0 ≤ 65535 := by rw [hs0]; exact Nat.sub_le _ _
    have QN : Hid _ := notZero_any s0 w10
    clear QK hb10 c3 HR9 HP19 HP29 hs0
    go_wp2_with fail
    refine Calls.mono QN.out ?_
    rintro e w11 ⟨rfl, rfl⟩
    obtain ⟨s1, hs1⟩ : ∃ s1, s1 = L4.nz s0 := ⟨_, rfl⟩
    rw [← hs1]
    have HSL : Hid (s1 ≤ 65535) := by show _ ≤ _; rw [hs1]; exact (L4.nz_le _ hs65).1
    have HSER : Hid (spl (L4.uHd u 0 ++ u.d) 6 (byN 2 s1) = L4.uSer u (psL V U x y 17 (sz : Nat))) := HSERs.out s1 hs1
    have HP1w10 : Hid (Part.ok w10 ⟨some ⟨g, 0, none⟩, gc, L4.uHd u 0⟩) := HP110.out
    have HP2w10 : Hid (Part.ok w10 ⟨da, c, u.d⟩) := HP210.out
    have HRw10 : Hid (UAt w10 O u da n c) := HR10.out
    have belw10 := bel10
    clear QN hs1 hs65 HSERs HP110 HP210 HR10
    have QJ : Hid _ := joined_two w10 w10.heap.size (some ⟨g, 0, none⟩) da 8 n gc c (L4.uHd u 0) u.d sz 6 (s1) rfl rfl HK.out.dl HP1w10.out HP2w10.out HSZ.out.symm hsz65 (by omega) (by exact HSL.out)
    have c3 := HRw10.out.c3
    go_wp2_with fail
    refine Calls.mono QJ.out ?_
    rintro e wz ⟨gz, rfl, hoz, hbz⟩
    have HFZ : Hid (Below w.heap.size w wz) := bthen belw10 hbz
    have HOZ : Hid _ := owns_le hoz belw10.size
    clear QJ hoz hbz
    go_wp2
    go_ret2
    exact ⟨_, E, (by rw [HEQ.out]; rfl), rfl, HFZ.out, .inl ⟨HEQ.out, gz, (by rw [← HSZ.out]; rfl), (by rw [← HSZ.out, ← HSER.out]; exact HOZ.out)⟩⟩
end Go.Proofs.YtfoeepbndfnifaaDoor
