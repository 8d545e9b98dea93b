/-
  The walk of L4OneBit: a bit turned over is told.
-/
import Derived.Test.YtmeieggnfmhnmaaDoorL9BitP
import Derived.Deep.DeepCutAuto
namespace Go.Proofs.YtmeieggnfmhnmaaDoor
open Go.RowKit
open L4 (U9 T9)

theorem dcell {w : World} {bs : List Nat} {g n c : Nat} (h : DOk w bs (some ⟨g, 0, none⟩) n c) (i : Nat) (hi : i < n) : w.cell? ⟨g, i, none⟩ = some (.int .u8 ((bs.getD i 0 : Nat) : Int)) := by
  have hl := h.dl
  rcases h.seg with h0 | ⟨b, off, e, hc⟩
  · have : bs = [] := by simpa [toI] using h0
    rw [this] at hl
    simp at hl
    omega
  · have e2 := Option.some.inj e
    simp only [Addr.mk.injEq] at e2
    obtain ⟨rfl, rfl, _⟩ := e2
    have := hc i (by rw [toI_len]; omega)
    rw [Nat.zero_add] at this
    rw [this]
    have hi2 : i < bs.length := by omega
    simp [toI, List.getD, hi2]
set_option maxHeartbeats 25600000 in
set_option maxRecDepth 100000 in
theorem l4OneBit.walk (w : World) (hT : Tabs w) (V : Int) (x : Nat → Nat) (hx : ∀ i, i < 16 → x i < 256) (U : Int) (y : Nat → Nat) (hy : ∀ i, i < 16 → y i < 256) (u : U9) (da : Option Addr) (n c : Nat) (k : DOk w u.d da n c)
    (t : T9) (la : Option Addr) (ln lc : Nat) (os : List OpV) (dt : Option Addr) (mt ct : Nat) (kt : TOk w t la ln os dt mt ct) (_ : ln ≤ 1048576 ∧ (∀ o ∈ os, o.d.length ≤ 1048576) ∧ mt ≤ 1048576) (bit : Int) :
    Calls Tryd.prog 6 #[.agg (ipCells V x), .agg (ipCells U y), .agg (uC u da n c), .agg (tC t la ln lc dt mt ct), .int .i64 bit] w fun e w' => e = .returned (.bool true) ∧ Below w.heap.size w w' := by
  obtain ⟨A, hA⟩ : ∃ A, A = ipCells V x := ⟨_, rfl⟩
  obtain ⟨C, hC⟩ : ∃ C, C = ipCells U y := ⟨_, rfl⟩
  have hx1 := boxed_new w V x 24
  have hy1 := boxed_new (w.alloc (.cells (ipCells V x) 24)) U y 24
  rw [World.size_alloc] at hy1
  have hx2 := hx1.old ((Below.refl _ _).alloc (Nat.le_refl _) (.cells (ipCells U y) 24))
  clear hx1
  rw [← hA] at hx2 hy1 ⊢
  rw [← hC] at hx2 hy1 ⊢
  obtain ⟨M, hM⟩ : ∃ M, M = uC u da n c := ⟨_, rfl⟩
  obtain ⟨N, hN⟩ : ∃ N, N = tC t la ln lc dt mt ct := ⟨_, rfl⟩
  obtain ⟨W2, hW2⟩ : ∃ W2, W2 = (w.alloc (.cells A 24)).alloc (.cells C 24) := ⟨_, rfl⟩
  have s2 : W2.heap.size = w.heap.size + 1 + 1 := by rw [hW2]; simp
  have bel2 : Below w.heap.size w W2 := by rw [hW2]; exact ((Below.refl _ _).alloc (Nat.le_refl _) _).alloc (by simp) _
  rw [← hW2] at hx2 hy1
  have hru := uAt_new W2 u da n c
  have b3 : Below W2.heap.size W2 (W2.alloc (.cells M 28)) := (Below.refl _ _).alloc (Nat.le_refl _) _
  rw [← hM] at hru ⊢
  obtain ⟨W3, hW3⟩ : ∃ W3, W3 = W2.alloc (.cells M 28) := ⟨_, rfl⟩
  rw [← hW3] at hru b3
  have s3 : W3.heap.size = W2.heap.size + 1 := by rw [hW3]; simp
  have hrt := tAt_new W3 t la ln lc dt mt ct
  have b4 : Below W3.heap.size W3 (W3.alloc (.cells N 39)) := (Below.refl _ _).alloc (Nat.le_refl _) _
  rw [← hN] at hrt ⊢
  obtain ⟨W, hW⟩ : ∃ W, W = W3.alloc (.cells N 39) := ⟨_, rfl⟩
  rw [← hW] at hrt b4
  have bel3 := bthen bel2 b3
  have bel := bthen bel3 b4
  have HXB : Hid (Boxed W w.heap.size V x) := (hx2.old b3).old b4
  have HYB : Hid (Boxed W (w.heap.size + 1) U y) := (hy1.old b3).old b4
  obtain ⟨B, hB⟩ : ∃ B, B = w.heap.size := ⟨_, rfl⟩
  rw [← hB] at HXB HYB s2
  obtain ⟨O, hO⟩ : ∃ O, O = B + 1 + 1 := ⟨_, rfl⟩
  obtain ⟨O2, hO2⟩ : ∃ O2, O2 = O + 1 := ⟨_, rfl⟩
  rw [s2, ← hO] at hru
  rw [s3, s2, ← hO, ← hO2] at hrt
  have HRU : Hid (UAt W O u da n c) := hru.below b4
  have HRT : Hid (TAt W O2 t la ln lc dt mt ct) := hrt
  have HB : Hid (w.heap.size = B) := hB.symm
  have HO : Hid (B + 1 + 1 = O) := hO.symm
  have HO2 : Hid (O + 1 = O2) := hO2.symm
  have HW : Hid ((((w.alloc (.cells A 24)).alloc (.cells C 24)).alloc (.cells M 28)).alloc (.cells N 39) = W) := by show _ = _; rw [hW, hW3, hW2]
  have HX : Hid (∀ i, i < 16 → x i < 256) := hx
  have HY : Hid (∀ i, i < 16 → y i < 256) := hy
  clear hW hW2 hW3 hx2 hy1 hx hy hA hC hB hM hN hO hO2 hru hrt b3 b4 bel2 bel3 s2 s3
  have HK : Hid (DOk w u.d da n c) := k
  have HKT : Hid (TOk w t la ln os dt mt ct) := kt
  have HT : Hid (∀ A, Below w.heap.size w A → Tabs A) := fun A hA => hT.old hA
  have QS : Hid _ := started_any W (HT.out W bel)
  clear k kt hT
  go_enter Tryd.func6, Tryd.ntmps6
  go_upto_region 1 with fail
  rw [HB.out, HO.out, HO2.out, HW.out]
  go_wp2_with fail
  refine Calls.mono QS.out ?_
  rintro e w1 ⟨rfl, hb1⟩
  have bel1 := bthen bel hb1
  have HX1 : Hid (Boxed w1 B V x) := HXB.out.old hb1
  have HY1 : Hid (Boxed w1 (B + 1) U y) := HYB.out.old hb1
  have HRU1 : Hid (UAt w1 O u da n c) := HRU.out.below hb1
  have HRT1 : Hid (TAt w1 O2 t la ln lc dt mt ct) := HRT.out.below hb1
  clear QS hb1 HXB HYB HRU HRT HW bel HB HO HO2
  by_cases hneg : bit < 0
  case pos =>
    go_wp2
    go_ret
    exact ⟨rfl, bel1⟩
  obtain ⟨j, r, hjr, hr8⟩ : ∃ j r : Nat, bit = ((8 * j + r : Nat) : Int) ∧ r < 8 := ⟨bit.toNat / 8, bit.toNat % 8, by omega, by omega⟩
  have HJR : Hid (bit = ((8 * j + r : Nat) : Int)) := hjr
  have HR8 : Hid (r < 8) := hr8
  clear hjr hr8
  have QP : Hid _ := putU_any V U x y u da n c w1 (HT.out w1 bel1).u (HK.out.old bel1) HX.out HY.out
  go_wp2_with (first | (refine wpList_load_ip (.tmp 5) rfl B V x rfl HX1.out rfl ?_) | (refine wpList_load_ip (.tmp 6) rfl (B + 1) U y rfl HY1.out rfl ?_) | (refine wpList_load_u9 (.tmp 7) rfl O u da n c rfl HRU1.out rfl ?_))
  refine Calls.mono QP.out ?_
  rintro e w2 ⟨v, er, rfl, her, hb2, hr2⟩
  clear QP
  have bel2 := bthen bel1 hb2
  have HX2 : Hid (Boxed w2 B V x) := HX1.out.old hb2
  have HY2 : Hid (Boxed w2 (B + 1) U y) := HY1.out.old hb2
  have HRU2 : Hid (UAt w2 O u da n c) := UAt.below HRU1.out hb2
  have HRT2 : Hid (TAt w2 O2 t la ln lc dt mt ct) := TAt.below HRT1.out hb2
  clear HX1 HY1 HRU1 HRT1
  clear hb2
  by_cases hz : er = 0
  · subst hz
    have hok : psOk V U x y = true ∧ L4.uChk V u = 0 := by
      have h := her.symm
      unfold L4.uPutE at h
      cases hp : psOk V U x y with
      | true => rw [hp, if_pos rfl] at h; exact ⟨rfl, h⟩
      | false => rw [hp] at h; cases h
    obtain ⟨L, hL⟩ : ∃ L, L = 8 + n := ⟨_, rfl⟩
    have L65 : L ≤ 65535 := by have := (L4.uChk_zero hok.2).2.2.2.2; rw [HK.out.dl] at this; omega
    have L8 : 8 ≤ L := by omega
    obtain ⟨ub, hub⟩ : ∃ ub, ub = L4.uSer u (psL V U x y 17 (L : Nat)) := ⟨_, rfl⟩
    obtain ⟨g, rfl, ho2⟩ : ∃ g, v = .slice (some ⟨g, 0, none⟩) L L ∧ OwnB w2 w1.heap.size (.slice (some ⟨g, 0, none⟩) L L) L ub := by
      rcases hr2 with ⟨_, g, h1, h2⟩ | ⟨h1, _⟩
      · rw [← hL] at h1 h2
        rw [← hub] at h2
        exact ⟨g, h1, h2⟩
      · exact absurd rfl h1
    have hul : ub.length = L := by rw [hub, L4.uSer_len, HK.out.dl, hL]
    have hu256 : ∀ z ∈ ub, z < 256 := by rw [hub]; exact L4.uSer_256 u _ hok.2 HK.out.d256
    have HD2 : Hid (DOk w2 ub (some ⟨g, 0, none⟩) L L) := ⟨hul, (owns_seg_at ho2).1, hu256, Nat.le_refl _, by omega, by omega⟩
    have HUBIT : Hid (u.ns = false → ∀ i s, i < L → s < 8 → ∀ b, b = ub.set i (ub.getD i 0 ^^^ 2 ^ s) → L4.uPE V true (psL V U x y 17 (L4.uN b : Nat)) b = 0 → L4.uP b ≠ u ∧ (i ≠ 4 → i ≠ 5 → b.getD 6 0 = 0 ∧ b.getD 7 0 = 0)) := by
      intro hns i s hi hs b hb h
      have e8 : 8 + u.d.length = L := by rw [HK.out.dl, hL]
      refine udp_bit V u (fun m => psL V U x y 17 (m : Nat)) (psL_even _ _ _ _ _ _) hok.2 hns ?_ i s (by rw [e8]; exact hi) hs b ?_ h
      · show ∀ z ∈ L4.uSer u (psL V U x y 17 ((8 + u.d.length : Nat) : Int)), z < 256
        rw [e8, ← hub]
        exact hu256
      · show b = (L4.uSer u (psL V U x y 17 ((8 + u.d.length : Nat) : Int))).set i ((L4.uSer u (psL V U x y 17 ((8 + u.d.length : Nat) : Int))).getD i 0 ^^^ 2 ^ s)
        rw [e8, ← hub]
        exact hb
    have HPSU : Hid (psOk V U x y = true) := hok.1
    have w8L : IntKind.i64.wrap (8 * (L : Int)) = 8 * (L : Int) := by rw [IntKind.wrap_i64]; omega
    clear hr2 her hok hL hub ho2 hul hu256
    go_wp2_with fail
    refine Calls.mono (num9_any 0 _) ?_
    rintro e wn ⟨rfl, rfl⟩
    have c2 := HRU2.out.c2
    by_cases hns : u.ns = true
    case pos =>
      rw [hns] at c2
      go_wp2_with fail
      refine Calls.mono (num9_any 0 _) ?_
      rintro e wn ⟨rfl, rfl⟩
      go_upto_region 14 with fail
      clear w8L HUBIT HD2 L65 L8 c2 hns
      have QP : Hid _ := putT_any V U x y t la ln lc os dt mt ct w2 (HT.out w2 bel2).t (HT.out w2 bel2).l (HKT.out.old bel2) HX.out HY.out
      go_wp2_with (first | (refine wpList_load_ip (.tmp 5) rfl B V x rfl HX2.out rfl ?_) | (refine wpList_load_ip (.tmp 6) rfl (B + 1) U y rfl HY2.out rfl ?_) | (refine wpList_load_t9 (.tmp 8) rfl O2 t la ln lc dt mt ct rfl HRT2.out rfl ?_))
      refine Calls.mono QP.out ?_
      rintro e w30 ⟨v3, ef, rfl, hef, hb30, hr30⟩
      clear QP
      have bel30 := bthen bel2 hb30
      have HX30 : Hid (Boxed w30 B V x) := HX2.out.old hb30
      have HY30 : Hid (Boxed w30 (B + 1) U y) := HY2.out.old hb30
      have HRU30 : Hid (UAt w30 O u da n c) := UAt.below HRU2.out hb30
      have HRT30 : Hid (TAt w30 O2 t la ln lc dt mt ct) := TAt.below HRT2.out hb30
      clear HX2 HY2 HRU2 HRT2
      clear hb30
      by_cases hzf : ef = 0
      case neg =>
        obtain rfl : v3 = .slice none 0 0 := by
          rcases hr30 with ⟨h, _⟩ | ⟨_, h⟩
          · exact absurd h hzf
          · exact h
        have b1 : ((ef : Int) != 0) = true := by rw [bne_iff_ne]; omega
        clear hr30 hef hzf
        go_wp2_with fail
        refine Calls.mono (num9_any (ef : Int) _) ?_
        rintro e wn ⟨rfl, rfl⟩
        go_wp2
        go_ret
        exact ⟨rfl, bel30⟩
      subst hzf
      have hok : psOk V U x y = true ∧ L4.tChk t = 0 := by
        have h := hef.symm
        unfold L4.tPutE at h
        cases hp : psOk V U x y with
        | true => rw [hp, if_pos rfl] at h; exact ⟨rfl, h⟩
        | false => rw [hp] at h; cases h
      obtain ⟨LT, hLT⟩ : ∃ LT, LT = 20 + (I4.putO t.os).length + mt := ⟨_, rfl⟩
      have L65 : LT ≤ 65535 := by have := (L4.tChk_zero hok.2).2.2; rw [HKT.out.d.dl] at this; omega
      obtain ⟨pt, hpt⟩ : ∃ pt, pt = psL V U x y 6 (LT : Nat) := ⟨_, rfl⟩
      obtain ⟨tb, htb⟩ : ∃ tb, tb = L4.tSer t pt := ⟨_, rfl⟩
      obtain ⟨g3, rfl, ho3⟩ : ∃ g, v3 = .slice (some ⟨g, 0, none⟩) LT LT ∧ OwnB w30 w2.heap.size (.slice (some ⟨g, 0, none⟩) LT LT) LT tb := by
        rcases hr30 with ⟨_, g, h1, h2⟩ | ⟨h1, _⟩
        · rw [← hLT] at h1 h2
          rw [← hpt, ← htb] at h2
          exact ⟨g, h1, h2⟩
        · exact absurd rfl h1
      have htl : tb.length = LT := by rw [htb, L4.tSer_len, HKT.out.d.dl, hLT]
      have ht256 : ∀ z ∈ tb, z < 256 := by rw [htb]; exact tSer_256 HKT.out hok.2 pt
      have HD30 : Hid (DOk w30 tb (some ⟨g3, 0, none⟩) LT LT) := ⟨htl, (owns_seg_at ho3).1, ht256, Nat.le_refl _, by omega, by omega⟩
      have HTBIT : Hid (∀ i s, i < LT → s < 8 → L4.tPE true pt (tb.set i (tb.getD i 0 ^^^ 2 ^ s)) ≠ 0) := by
        intro i s hi hs
        rw [htb]
        exact tcp_bit t pt (by rw [hpt]; exact psL_even _ _ _ _ _ _) (by rw [← htb]; exact ht256) i s (by rw [← htb, htl]; exact hi) hs
      have HPT : Hid (pt = psL V U x y 6 (LT : Nat)) := hpt
      have HPS : Hid (psOk V U x y = true) := hok.1
      have w8L : IntKind.i64.wrap (8 * (LT : Int)) = 8 * (LT : Int) := by rw [IntKind.wrap_i64]; omega
      clear hr30 hef hok hLT hpt htb ho3 htl ht256
      go_wp2_with fail
      refine Calls.mono (num9_any 0 _) ?_
      rintro e wn ⟨rfl, rfl⟩
      by_cases hlen : 8 * (LT : Int) ≤ bit
      case pos =>
        go_wp2
        go_ret
        exact ⟨rfl, bel30⟩
      have hjl : j < LT := by have := HJR.out; omega
      have HTN : Hid (∀ A, Below w30.heap.size w30 A → Calls Tryd.prog 22 #[.slice (some ⟨g3, 0, none⟩) LT LT, .int .i64 bit] A fun e w' => ∃ g c, e = .returned (.slice (some ⟨g, 0, none⟩) LT c) ∧ Below A.heap.size A w' ∧ DOk w' (tb.set j (tb.getD j 0 ^^^ 2 ^ (7 - r))) (some ⟨g, 0, none⟩) LT c) := by
        intro A hA
        rw [HJR.out]
        exact turned_any (some ⟨g3, 0, none⟩) LT LT tb j r A (HD30.out.old hA) hjl HR8.out L65
      have HE0 : Hid (L4.tPE true pt (tb.set j (tb.getD j 0 ^^^ 2 ^ (7 - r))) ≠ 0) := HTBIT.out j (7 - r) hjl (by omega)
      obtain ⟨tn, htn⟩ : ∃ tn, tn = tb.set j (tb.getD j 0 ^^^ 2 ^ (7 - r)) := ⟨_, rfl⟩
      rw [← htn] at HTN HE0
      have HPA : Hid (∀ (A A0 : World) (g c : Nat), Below w30.heap.size w30 A → DOk A tn (some ⟨g, 0, none⟩) LT c → Calls Tryd.prog 16 #[.agg (ipCells V x), .agg (ipCells U y), .slice (some ⟨g, 0, none⟩) LT c] A fun e w' => ∃ E : Nat, E ≠ 0 ∧ e = .returned (.tuple #[.agg (tC t9z none 0 0 none 0 0), .int .i64 (E : Nat)]) ∧ Below A.heap.size A w') := by
        intro A A0 g c hA hD
        have bA := bthen bel30 hA
        refine (parseT_u V U x y (some ⟨g, 0, none⟩) LT c tn A (HT.out A bA).t (HT.out A bA).l hD HX.out HY.out).mono ?_
        rintro e w' ⟨E, t', la', ln', lc', os', da', m', rfl, hb, hE, _, _, h2, _⟩
        rw [HPS.out, ← HPT.out] at hE
        have hE0 : E ≠ 0 := by rw [hE]; exact HE0.out
        obtain ⟨rfl, rfl, rfl, rfl, rfl, rfl, rfl⟩ := h2 hE0
        exact ⟨E, hE0, rfl, hb⟩
      clear htn HE0 HTBIT hjl
      have hlt3 : bit < 8 * (LT : Int) := by omega
      go_upto_region 17 with fail
      clear hlen w8L hlt3
      refine MixH.start (fun A => Below w30.heap.size w30 A) (by kernel_rfl) ?_
      obtain ⟨wA, hwA⟩ : ∃ wA, wA = w30.drew := ⟨_, rfl⟩
      have hS : Below w30.heap.size w30 wA := by rw [hwA]; exact (Below.refl _ _).drew
      rw [← hwA]
      clear hwA
      refine MixH.take 11 0 _ (.agg (ipCells V x)) rfl (by kernel_rfl) (by kernel_rfl) (by kernel_rfl) (by kernel_rfl) (yields_ip (.tmp 5) rfl B V x rfl rfl (fun A hA => HX30.out.old hA)) hS (fun a' ha => ?_)
      simp only [Act.put, List.setIfInBounds_toArray, List.set_cons_succ, List.set_cons_zero] at ha
      subst ha
      refine MixH.take 10 1 _ (.agg (ipCells U y)) rfl (by kernel_rfl) (by kernel_rfl) (by kernel_rfl) (by kernel_rfl) (yields_ip (.tmp 6) rfl (B + 1) U y rfl rfl (fun A hA => HY30.out.old hA)) hS (fun a' ha => ?_)
      simp only [Act.put, List.setIfInBounds_toArray, List.set_cons_succ, List.set_cons_zero] at ha
      subst ha
      refine MixH.takes [false, false, true, true] 8 (by kernel_rfl) (by kernel_rfl) (by decide) (by kernel_rfl) hS (fun K hK => ?_)
      simp only [Mix.pick]
      repeat (go_big_quiet_step (fail))
      refine wpQuiet_nil (hK _ ?_)
      clear hK K
      refine MixH.pair [false, false, false, false, true] [false, false, false, false, false, false, false, false, false, true] 7 4 9 _ _ rfl rfl rfl rfl (by kernel_rfl) (by kernel_rfl) (fun K hK => ?_) (fun K hK => ?_)
      · simp only [Mix.pick]
        go_wp2_with fail
        refine Calls.mono (HTN.out wA hS) ?_
        rintro e wT ⟨g, cc, rfl, hbN, hdT⟩
        have HDT : Hid (DOk wT tn (some ⟨g, 0, none⟩) LT cc) := hdT
        replace hS : Below w30.heap.size w30 wT := bthen hS hbN
        clear hbN hdT
        go_wp2
        refine ⟨rfl, hK _ _ hS ?_⟩
        clear hK K
        refine MixH.pair [false, false, false, false, false, true] [false, false, false, false, false, false, false, false, false, true] 6 5 9 _ _ rfl rfl rfl rfl (by kernel_rfl) (by kernel_rfl) (fun K hK => ?_) (fun K hK => ?_)
        · simp only [Mix.pick]
          go_wp2_with fail
          refine Calls.mono (HPA.out wT wT g cc hS (HDT.out) ) ?_
          rintro e wP ⟨E, hE0, rfl, hbN⟩
          replace hS : Below w30.heap.size w30 wP := bthen hS hbN
          clear hbN
          go_wp2
          refine ⟨rfl, hK _ _ hS ?_⟩
          clear hK K
          refine MixH.takes [false, false, false, false, false, false, true, true, true] 3 (by kernel_rfl) (by kernel_rfl) (by decide) (by kernel_rfl) hS (fun K hK => ?_)
          simp only [Mix.pick]
          repeat (go_big_quiet_step (fail))
          refine wpQuiet_nil (hK _ ?_)
          clear hK K
          refine MixH.one [false, false, false, false, false, false, false, false, false, true] 2 9 _ rfl rfl (by kernel_rfl) (by kernel_rfl) (fun K hK => ?_)
          simp only [Mix.pick]
          have hSn : Below w30.heap.size w30 (wP.alloc (.cells (tC t9z none 0 0 none 0 0) 39)) := hS.alloc hS.size _
          refine wpList_alloc_t9 rfl rfl ?_
          obtain ⟨wL, hwn⟩ : ∃ x, x = wP.alloc (.cells (tC t9z none 0 0 none 0 0) 39) := ⟨_, rfl⟩
          obtain ⟨O9, hO9⟩ : ∃ x, x = wP.heap.size := ⟨_, rfl⟩
          have HT9 : Hid (TAt wL O9 t9z none 0 0 none 0 0) := by rw [hwn, hO9]; exact tAt_new _ _ _ _ _ _ _ _
          have HO9 : Hid (w30.heap.size ≤ O9) := by rw [hO9]; exact hS.size
          rw [← hwn] at hSn ⊢
          rw [← hO9]
          clear hS hwn hO9
          have hS := hSn
          clear hSn
          go_wp2
          refine ⟨rfl, hK _ _ hS ?_⟩
          clear hK K
          refine MixH.one [false, false, false, false, false, false, false, false, false, false, true] 1 10 _ rfl rfl (by kernel_rfl) (by kernel_rfl) (fun K hK => ?_)
          simp only [Mix.pick]
          refine wpList_store_t9 (.tmp 19) (.tmp 131) rfl rfl O9 t9z none 0 0 none 0 0 t9z none 0 0 none 0 0 rfl rfl HT9.out rfl ?_
          intro wS hPS kS
          replace hS : Below w30.heap.size w30 wS := hS.trans (kS.below (fun q e => by have e' : q = O9 := e; have := HO9.out; omega) hS.size)
          clear hPS kS
          go_wp2
          refine ⟨rfl, hK _ _ hS ?_⟩
          clear hK K
          refine MixH.takes [false, false, false, false, false, false, false, false, false, false, false, true] 0 (by kernel_rfl) (by kernel_rfl) (by decide) (by kernel_rfl) hS (fun K hK => ?_)
          simp only [Mix.pick]
          repeat (go_big_quiet_step (fail))
          refine wpQuiet_nil (hK _ ?_)
          clear hK K
          refine MixH.done (by kernel_rfl) ?_
          have bE : ((E : Int) != 0) = true := by rw [bne_iff_ne]; omega
          have belF := bthen bel30 hS
          clear hE0
          by_cases h1 : bit < 96
          · have h1' : ¬ (96 : Int) ≤ bit := by omega
            go_wp2_with fail
            refine Calls.mono (num9_any (E : Int) _) ?_
            rintro e wn ⟨rfl, rfl⟩
            go_wp2
            go_ret
            exact ⟨rfl, belF⟩
          by_cases h2 : bit < 100
          · have h1' : (96 : Int) ≤ bit := by omega
            go_wp2_with fail
            refine Calls.mono (num9_any (E : Int) _) ?_
            rintro e wn ⟨rfl, rfl⟩
            go_wp2
            go_ret
            exact ⟨rfl, belF⟩
          have h1' : (96 : Int) ≤ bit := by omega
          have h2' : (100 : Int) ≤ bit := by omega
          go_wp2_with fail
          refine Calls.mono (num9_any (E : Int) _) ?_
          rintro e wn ⟨rfl, rfl⟩
          go_wp2
          go_ret
          exact ⟨rfl, belF⟩
        · simp only [Mix.pick]
          have hSn : Below w30.heap.size w30 (wT.alloc (.cells (tC t9z none 0 0 none 0 0) 39)) := hS.alloc hS.size _
          refine wpList_alloc_t9 rfl rfl ?_
          obtain ⟨wL, hwn⟩ : ∃ x, x = wT.alloc (.cells (tC t9z none 0 0 none 0 0) 39) := ⟨_, rfl⟩
          obtain ⟨O9, hO9⟩ : ∃ x, x = wT.heap.size := ⟨_, rfl⟩
          have HT9 : Hid (TAt wL O9 t9z none 0 0 none 0 0) := by rw [hwn, hO9]; exact tAt_new _ _ _ _ _ _ _ _
          have HO9 : Hid (w30.heap.size ≤ O9) := by rw [hO9]; exact hS.size
          have HDT2 : Hid (DOk wL tn (some ⟨g, 0, none⟩) LT cc) := by rw [hwn]; exact HDT.out.old ((Below.refl _ _).alloc (Nat.le_refl _) _)
          clear HDT
          have HDT := HDT2
          clear HDT2
          rw [← hwn] at hSn ⊢
          rw [← hO9]
          clear hS hwn hO9
          have hS := hSn
          clear hSn
          go_wp2
          refine ⟨rfl, hK _ _ hS ?_⟩
          clear hK K
          refine MixH.one [false, false, false, false, false, true] 5 5 _ rfl rfl (by kernel_rfl) (by kernel_rfl) (fun K hK => ?_)
          simp only [Mix.pick]
          go_wp2_with fail
          refine Calls.mono (HPA.out wL wL g cc hS (HDT.out) ) ?_
          rintro e wP ⟨E, hE0, rfl, hbN⟩
          replace hS : Below w30.heap.size w30 wP := bthen hS hbN
          have HT9b : Hid (TAt wP O9 t9z none 0 0 none 0 0) := TAt.below HT9.out hbN
          clear HT9
          have HT9 := HT9b
          clear HT9b
          clear hbN
          go_wp2
          refine ⟨rfl, hK _ _ hS ?_⟩
          clear hK K
          refine MixH.takes [false, false, false, false, false, false, true, true, true] 2 (by kernel_rfl) (by kernel_rfl) (by decide) (by kernel_rfl) hS (fun K hK => ?_)
          simp only [Mix.pick]
          repeat (go_big_quiet_step (fail))
          refine wpQuiet_nil (hK _ ?_)
          clear hK K
          refine MixH.one [false, false, false, false, false, false, false, false, false, false, true] 1 10 _ rfl rfl (by kernel_rfl) (by kernel_rfl) (fun K hK => ?_)
          simp only [Mix.pick]
          refine wpList_store_t9 (.tmp 19) (.tmp 131) rfl rfl O9 t9z none 0 0 none 0 0 t9z none 0 0 none 0 0 rfl rfl HT9.out rfl ?_
          intro wS hPS kS
          replace hS : Below w30.heap.size w30 wS := hS.trans (kS.below (fun q e => by have e' : q = O9 := e; have := HO9.out; omega) hS.size)
          clear hPS kS
          go_wp2
          refine ⟨rfl, hK _ _ hS ?_⟩
          clear hK K
          refine MixH.takes [false, false, false, false, false, false, false, false, false, false, false, true] 0 (by kernel_rfl) (by kernel_rfl) (by decide) (by kernel_rfl) hS (fun K hK => ?_)
          simp only [Mix.pick]
          repeat (go_big_quiet_step (fail))
          refine wpQuiet_nil (hK _ ?_)
          clear hK K
          refine MixH.done (by kernel_rfl) ?_
          have bE : ((E : Int) != 0) = true := by rw [bne_iff_ne]; omega
          have belF := bthen bel30 hS
          clear hE0
          by_cases h1 : bit < 96
          · have h1' : ¬ (96 : Int) ≤ bit := by omega
            go_wp2_with fail
            refine Calls.mono (num9_any (E : Int) _) ?_
            rintro e wn ⟨rfl, rfl⟩
            go_wp2
            go_ret
            exact ⟨rfl, belF⟩
          by_cases h2 : bit < 100
          · have h1' : (96 : Int) ≤ bit := by omega
            go_wp2_with fail
            refine Calls.mono (num9_any (E : Int) _) ?_
            rintro e wn ⟨rfl, rfl⟩
            go_wp2
            go_ret
            exact ⟨rfl, belF⟩
          have h1' : (96 : Int) ≤ bit := by omega
          have h2' : (100 : Int) ≤ bit := by omega
          go_wp2_with fail
          refine Calls.mono (num9_any (E : Int) _) ?_
          rintro e wn ⟨rfl, rfl⟩
          go_wp2
          go_ret
          exact ⟨rfl, belF⟩
      · simp only [Mix.pick]
        have hSn : Below w30.heap.size w30 (wA.alloc (.cells (tC t9z none 0 0 none 0 0) 39)) := hS.alloc hS.size _
        refine wpList_alloc_t9 rfl rfl ?_
        obtain ⟨wL, hwn⟩ : ∃ x, x = wA.alloc (.cells (tC t9z none 0 0 none 0 0) 39) := ⟨_, rfl⟩
        obtain ⟨O9, hO9⟩ : ∃ x, x = wA.heap.size := ⟨_, rfl⟩
        have HT9 : Hid (TAt wL O9 t9z none 0 0 none 0 0) := by rw [hwn, hO9]; exact tAt_new _ _ _ _ _ _ _ _
        have HO9 : Hid (w30.heap.size ≤ O9) := by rw [hO9]; exact hS.size
        rw [← hwn] at hSn ⊢
        rw [← hO9]
        clear hS hwn hO9
        have hS := hSn
        clear hSn
        go_wp2
        refine ⟨rfl, hK _ _ hS ?_⟩
        clear hK K
        refine MixH.one [false, false, false, false, true] 6 4 _ rfl rfl (by kernel_rfl) (by kernel_rfl) (fun K hK => ?_)
        simp only [Mix.pick]
        go_wp2_with fail
        refine Calls.mono (HTN.out wL hS) ?_
        rintro e wT ⟨g, cc, rfl, hbN, hdT⟩
        have HDT : Hid (DOk wT tn (some ⟨g, 0, none⟩) LT cc) := hdT
        replace hS : Below w30.heap.size w30 wT := bthen hS hbN
        have HT9b : Hid (TAt wT O9 t9z none 0 0 none 0 0) := TAt.below HT9.out hbN
        clear HT9
        have HT9 := HT9b
        clear HT9b
        clear hbN hdT
        go_wp2
        refine ⟨rfl, hK _ _ hS ?_⟩
        clear hK K
        refine MixH.one [false, false, false, false, false, true] 5 5 _ rfl rfl (by kernel_rfl) (by kernel_rfl) (fun K hK => ?_)
        simp only [Mix.pick]
        go_wp2_with fail
        refine Calls.mono (HPA.out wT wT g cc hS (HDT.out) ) ?_
        rintro e wP ⟨E, hE0, rfl, hbN⟩
        replace hS : Below w30.heap.size w30 wP := bthen hS hbN
        have HT9b : Hid (TAt wP O9 t9z none 0 0 none 0 0) := TAt.below HT9.out hbN
        clear HT9
        have HT9 := HT9b
        clear HT9b
        clear hbN
        go_wp2
        refine ⟨rfl, hK _ _ hS ?_⟩
        clear hK K
        refine MixH.takes [false, false, false, false, false, false, true, true, true] 2 (by kernel_rfl) (by kernel_rfl) (by decide) (by kernel_rfl) hS (fun K hK => ?_)
        simp only [Mix.pick]
        repeat (go_big_quiet_step (fail))
        refine wpQuiet_nil (hK _ ?_)
        clear hK K
        refine MixH.one [false, false, false, false, false, false, false, false, false, false, true] 1 10 _ rfl rfl (by kernel_rfl) (by kernel_rfl) (fun K hK => ?_)
        simp only [Mix.pick]
        refine wpList_store_t9 (.tmp 19) (.tmp 131) rfl rfl O9 t9z none 0 0 none 0 0 t9z none 0 0 none 0 0 rfl rfl HT9.out rfl ?_
        intro wS hPS kS
        replace hS : Below w30.heap.size w30 wS := hS.trans (kS.below (fun q e => by have e' : q = O9 := e; have := HO9.out; omega) hS.size)
        clear hPS kS
        go_wp2
        refine ⟨rfl, hK _ _ hS ?_⟩
        clear hK K
        refine MixH.takes [false, false, false, false, false, false, false, false, false, false, false, true] 0 (by kernel_rfl) (by kernel_rfl) (by decide) (by kernel_rfl) hS (fun K hK => ?_)
        simp only [Mix.pick]
        repeat (go_big_quiet_step (fail))
        refine wpQuiet_nil (hK _ ?_)
        clear hK K
        refine MixH.done (by kernel_rfl) ?_
        have bE : ((E : Int) != 0) = true := by rw [bne_iff_ne]; omega
        have belF := bthen bel30 hS
        clear hE0
        by_cases h1 : bit < 96
        · have h1' : ¬ (96 : Int) ≤ bit := by omega
          go_wp2_with fail
          refine Calls.mono (num9_any (E : Int) _) ?_
          rintro e wn ⟨rfl, rfl⟩
          go_wp2
          go_ret
          exact ⟨rfl, belF⟩
        by_cases h2 : bit < 100
        · have h1' : (96 : Int) ≤ bit := by omega
          go_wp2_with fail
          refine Calls.mono (num9_any (E : Int) _) ?_
          rintro e wn ⟨rfl, rfl⟩
          go_wp2
          go_ret
          exact ⟨rfl, belF⟩
        have h1' : (96 : Int) ≤ bit := by omega
        have h2' : (100 : Int) ≤ bit := by omega
        go_wp2_with fail
        refine Calls.mono (num9_any (E : Int) _) ?_
        rintro e wn ⟨rfl, rfl⟩
        go_wp2
        go_ret
        exact ⟨rfl, belF⟩
    have hns : u.ns = false := by simpa using hns
    rw [hns] at c2
    by_cases hlen : 8 * (L : Int) ≤ bit
    case pos =>
      go_wp2_with fail
      refine Calls.mono (num9_any 0 _) ?_
      rintro e wn ⟨rfl, rfl⟩
      go_upto_region 14 with fail
      clear w8L HUBIT HD2 L65 L8 c2 hns hlen
      have QP : Hid _ := putT_any V U x y t la ln lc os dt mt ct w2 (HT.out w2 bel2).t (HT.out w2 bel2).l (HKT.out.old bel2) HX.out HY.out
      go_wp2_with (first | (refine wpList_load_ip (.tmp 5) rfl B V x rfl HX2.out rfl ?_) | (refine wpList_load_ip (.tmp 6) rfl (B + 1) U y rfl HY2.out rfl ?_) | (refine wpList_load_t9 (.tmp 8) rfl O2 t la ln lc dt mt ct rfl HRT2.out rfl ?_))
      refine Calls.mono QP.out ?_
      rintro e w30 ⟨v3, ef, rfl, hef, hb30, hr30⟩
      clear QP
      have bel30 := bthen bel2 hb30
      have HX30 : Hid (Boxed w30 B V x) := HX2.out.old hb30
      have HY30 : Hid (Boxed w30 (B + 1) U y) := HY2.out.old hb30
      have HRU30 : Hid (UAt w30 O u da n c) := UAt.below HRU2.out hb30
      have HRT30 : Hid (TAt w30 O2 t la ln lc dt mt ct) := TAt.below HRT2.out hb30
      clear HX2 HY2 HRU2 HRT2
      clear hb30
      by_cases hzf : ef = 0
      case neg =>
        obtain rfl : v3 = .slice none 0 0 := by
          rcases hr30 with ⟨h, _⟩ | ⟨_, h⟩
          · exact absurd h hzf
          · exact h
        have b1 : ((ef : Int) != 0) = true := by rw [bne_iff_ne]; omega
        clear hr30 hef hzf
        go_wp2_with fail
        refine Calls.mono (num9_any (ef : Int) _) ?_
        rintro e wn ⟨rfl, rfl⟩
        go_wp2
        go_ret
        exact ⟨rfl, bel30⟩
      subst hzf
      have hok : psOk V U x y = true ∧ L4.tChk t = 0 := by
        have h := hef.symm
        unfold L4.tPutE at h
        cases hp : psOk V U x y with
        | true => rw [hp, if_pos rfl] at h; exact ⟨rfl, h⟩
        | false => rw [hp] at h; cases h
      obtain ⟨LT, hLT⟩ : ∃ LT, LT = 20 + (I4.putO t.os).length + mt := ⟨_, rfl⟩
      have L65 : LT ≤ 65535 := by have := (L4.tChk_zero hok.2).2.2; rw [HKT.out.d.dl] at this; omega
      obtain ⟨pt, hpt⟩ : ∃ pt, pt = psL V U x y 6 (LT : Nat) := ⟨_, rfl⟩
      obtain ⟨tb, htb⟩ : ∃ tb, tb = L4.tSer t pt := ⟨_, rfl⟩
      obtain ⟨g3, rfl, ho3⟩ : ∃ g, v3 = .slice (some ⟨g, 0, none⟩) LT LT ∧ OwnB w30 w2.heap.size (.slice (some ⟨g, 0, none⟩) LT LT) LT tb := by
        rcases hr30 with ⟨_, g, h1, h2⟩ | ⟨h1, _⟩
        · rw [← hLT] at h1 h2
          rw [← hpt, ← htb] at h2
          exact ⟨g, h1, h2⟩
        · exact absurd rfl h1
      have htl : tb.length = LT := by rw [htb, L4.tSer_len, HKT.out.d.dl, hLT]
      have ht256 : ∀ z ∈ tb, z < 256 := by rw [htb]; exact tSer_256 HKT.out hok.2 pt
      have HD30 : Hid (DOk w30 tb (some ⟨g3, 0, none⟩) LT LT) := ⟨htl, (owns_seg_at ho3).1, ht256, Nat.le_refl _, by omega, by omega⟩
      have HTBIT : Hid (∀ i s, i < LT → s < 8 → L4.tPE true pt (tb.set i (tb.getD i 0 ^^^ 2 ^ s)) ≠ 0) := by
        intro i s hi hs
        rw [htb]
        exact tcp_bit t pt (by rw [hpt]; exact psL_even _ _ _ _ _ _) (by rw [← htb]; exact ht256) i s (by rw [← htb, htl]; exact hi) hs
      have HPT : Hid (pt = psL V U x y 6 (LT : Nat)) := hpt
      have HPS : Hid (psOk V U x y = true) := hok.1
      have w8L : IntKind.i64.wrap (8 * (LT : Int)) = 8 * (LT : Int) := by rw [IntKind.wrap_i64]; omega
      clear hr30 hef hok hLT hpt htb ho3 htl ht256
      go_wp2_with fail
      refine Calls.mono (num9_any 0 _) ?_
      rintro e wn ⟨rfl, rfl⟩
      by_cases hlen : 8 * (LT : Int) ≤ bit
      case pos =>
        go_wp2
        go_ret
        exact ⟨rfl, bel30⟩
      have hjl : j < LT := by have := HJR.out; omega
      have HTN : Hid (∀ A, Below w30.heap.size w30 A → Calls Tryd.prog 22 #[.slice (some ⟨g3, 0, none⟩) LT LT, .int .i64 bit] A fun e w' => ∃ g c, e = .returned (.slice (some ⟨g, 0, none⟩) LT c) ∧ Below A.heap.size A w' ∧ DOk w' (tb.set j (tb.getD j 0 ^^^ 2 ^ (7 - r))) (some ⟨g, 0, none⟩) LT c) := by
        intro A hA
        rw [HJR.out]
        exact turned_any (some ⟨g3, 0, none⟩) LT LT tb j r A (HD30.out.old hA) hjl HR8.out L65
      have HE0 : Hid (L4.tPE true pt (tb.set j (tb.getD j 0 ^^^ 2 ^ (7 - r))) ≠ 0) := HTBIT.out j (7 - r) hjl (by omega)
      obtain ⟨tn, htn⟩ : ∃ tn, tn = tb.set j (tb.getD j 0 ^^^ 2 ^ (7 - r)) := ⟨_, rfl⟩
      rw [← htn] at HTN HE0
      have HPA : Hid (∀ (A A0 : World) (g c : Nat), Below w30.heap.size w30 A → DOk A tn (some ⟨g, 0, none⟩) LT c → Calls Tryd.prog 16 #[.agg (ipCells V x), .agg (ipCells U y), .slice (some ⟨g, 0, none⟩) LT c] A fun e w' => ∃ E : Nat, E ≠ 0 ∧ e = .returned (.tuple #[.agg (tC t9z none 0 0 none 0 0), .int .i64 (E : Nat)]) ∧ Below A.heap.size A w') := by
        intro A A0 g c hA hD
        have bA := bthen bel30 hA
        refine (parseT_u V U x y (some ⟨g, 0, none⟩) LT c tn A (HT.out A bA).t (HT.out A bA).l hD HX.out HY.out).mono ?_
        rintro e w' ⟨E, t', la', ln', lc', os', da', m', rfl, hb, hE, _, _, h2, _⟩
        rw [HPS.out, ← HPT.out] at hE
        have hE0 : E ≠ 0 := by rw [hE]; exact HE0.out
        obtain ⟨rfl, rfl, rfl, rfl, rfl, rfl, rfl⟩ := h2 hE0
        exact ⟨E, hE0, rfl, hb⟩
      clear htn HE0 HTBIT hjl
      have hlt3 : bit < 8 * (LT : Int) := by omega
      go_upto_region 17 with fail
      clear hlen w8L hlt3
      refine MixH.start (fun A => Below w30.heap.size w30 A) (by kernel_rfl) ?_
      obtain ⟨wA, hwA⟩ : ∃ wA, wA = w30.drew := ⟨_, rfl⟩
      have hS : Below w30.heap.size w30 wA := by rw [hwA]; exact (Below.refl _ _).drew
      rw [← hwA]
      clear hwA
      refine MixH.take 11 0 _ (.agg (ipCells V x)) rfl (by kernel_rfl) (by kernel_rfl) (by kernel_rfl) (by kernel_rfl) (yields_ip (.tmp 5) rfl B V x rfl rfl (fun A hA => HX30.out.old hA)) hS (fun a' ha => ?_)
      simp only [Act.put, List.setIfInBounds_toArray, List.set_cons_succ, List.set_cons_zero] at ha
      subst ha
      refine MixH.take 10 1 _ (.agg (ipCells U y)) rfl (by kernel_rfl) (by kernel_rfl) (by kernel_rfl) (by kernel_rfl) (yields_ip (.tmp 6) rfl (B + 1) U y rfl rfl (fun A hA => HY30.out.old hA)) hS (fun a' ha => ?_)
      simp only [Act.put, List.setIfInBounds_toArray, List.set_cons_succ, List.set_cons_zero] at ha
      subst ha
      refine MixH.takes [false, false, true, true] 8 (by kernel_rfl) (by kernel_rfl) (by decide) (by kernel_rfl) hS (fun K hK => ?_)
      simp only [Mix.pick]
      repeat (go_big_quiet_step (fail))
      refine wpQuiet_nil (hK _ ?_)
      clear hK K
      refine MixH.pair [false, false, false, false, true] [false, false, false, false, false, false, false, false, false, true] 7 4 9 _ _ rfl rfl rfl rfl (by kernel_rfl) (by kernel_rfl) (fun K hK => ?_) (fun K hK => ?_)
      · simp only [Mix.pick]
        go_wp2_with fail
        refine Calls.mono (HTN.out wA hS) ?_
        rintro e wT ⟨g, cc, rfl, hbN, hdT⟩
        have HDT : Hid (DOk wT tn (some ⟨g, 0, none⟩) LT cc) := hdT
        replace hS : Below w30.heap.size w30 wT := bthen hS hbN
        clear hbN hdT
        go_wp2
        refine ⟨rfl, hK _ _ hS ?_⟩
        clear hK K
        refine MixH.pair [false, false, false, false, false, true] [false, false, false, false, false, false, false, false, false, true] 6 5 9 _ _ rfl rfl rfl rfl (by kernel_rfl) (by kernel_rfl) (fun K hK => ?_) (fun K hK => ?_)
        · simp only [Mix.pick]
          go_wp2_with fail
          refine Calls.mono (HPA.out wT wT g cc hS (HDT.out) ) ?_
          rintro e wP ⟨E, hE0, rfl, hbN⟩
          replace hS : Below w30.heap.size w30 wP := bthen hS hbN
          clear hbN
          go_wp2
          refine ⟨rfl, hK _ _ hS ?_⟩
          clear hK K
          refine MixH.takes [false, false, false, false, false, false, true, true, true] 3 (by kernel_rfl) (by kernel_rfl) (by decide) (by kernel_rfl) hS (fun K hK => ?_)
          simp only [Mix.pick]
          repeat (go_big_quiet_step (fail))
          refine wpQuiet_nil (hK _ ?_)
          clear hK K
          refine MixH.one [false, false, false, false, false, false, false, false, false, true] 2 9 _ rfl rfl (by kernel_rfl) (by kernel_rfl) (fun K hK => ?_)
          simp only [Mix.pick]
          have hSn : Below w30.heap.size w30 (wP.alloc (.cells (tC t9z none 0 0 none 0 0) 39)) := hS.alloc hS.size _
          refine wpList_alloc_t9 rfl rfl ?_
          obtain ⟨wL, hwn⟩ : ∃ x, x = wP.alloc (.cells (tC t9z none 0 0 none 0 0) 39) := ⟨_, rfl⟩
          obtain ⟨O9, hO9⟩ : ∃ x, x = wP.heap.size := ⟨_, rfl⟩
          have HT9 : Hid (TAt wL O9 t9z none 0 0 none 0 0) := by rw [hwn, hO9]; exact tAt_new _ _ _ _ _ _ _ _
          have HO9 : Hid (w30.heap.size ≤ O9) := by rw [hO9]; exact hS.size
          rw [← hwn] at hSn ⊢
          rw [← hO9]
          clear hS hwn hO9
          have hS := hSn
          clear hSn
          go_wp2
          refine ⟨rfl, hK _ _ hS ?_⟩
          clear hK K
          refine MixH.one [false, false, false, false, false, false, false, false, false, false, true] 1 10 _ rfl rfl (by kernel_rfl) (by kernel_rfl) (fun K hK => ?_)
          simp only [Mix.pick]
          refine wpList_store_t9 (.tmp 19) (.tmp 131) rfl rfl O9 t9z none 0 0 none 0 0 t9z none 0 0 none 0 0 rfl rfl HT9.out rfl ?_
          intro wS hPS kS
          replace hS : Below w30.heap.size w30 wS := hS.trans (kS.below (fun q e => by have e' : q = O9 := e; have := HO9.out; omega) hS.size)
          clear hPS kS
          go_wp2
          refine ⟨rfl, hK _ _ hS ?_⟩
          clear hK K
          refine MixH.takes [false, false, false, false, false, false, false, false, false, false, false, true] 0 (by kernel_rfl) (by kernel_rfl) (by decide) (by kernel_rfl) hS (fun K hK => ?_)
          simp only [Mix.pick]
          repeat (go_big_quiet_step (fail))
          refine wpQuiet_nil (hK _ ?_)
          clear hK K
          refine MixH.done (by kernel_rfl) ?_
          have bE : ((E : Int) != 0) = true := by rw [bne_iff_ne]; omega
          have belF := bthen bel30 hS
          clear hE0
          by_cases h1 : bit < 96
          · have h1' : ¬ (96 : Int) ≤ bit := by omega
            go_wp2_with fail
            refine Calls.mono (num9_any (E : Int) _) ?_
            rintro e wn ⟨rfl, rfl⟩
            go_wp2
            go_ret
            exact ⟨rfl, belF⟩
          by_cases h2 : bit < 100
          · have h1' : (96 : Int) ≤ bit := by omega
            go_wp2_with fail
            refine Calls.mono (num9_any (E : Int) _) ?_
            rintro e wn ⟨rfl, rfl⟩
            go_wp2
            go_ret
            exact ⟨rfl, belF⟩
          have h1' : (96 : Int) ≤ bit := by omega
          have h2' : (100 : Int) ≤ bit := by omega
          go_wp2_with fail
          refine Calls.mono (num9_any (E : Int) _) ?_
          rintro e wn ⟨rfl, rfl⟩
          go_wp2
          go_ret
          exact ⟨rfl, belF⟩
        · simp only [Mix.pick]
          have hSn : Below w30.heap.size w30 (wT.alloc (.cells (tC t9z none 0 0 none 0 0) 39)) := hS.alloc hS.size _
          refine wpList_alloc_t9 rfl rfl ?_
          obtain ⟨wL, hwn⟩ : ∃ x, x = wT.alloc (.cells (tC t9z none 0 0 none 0 0) 39) := ⟨_, rfl⟩
          obtain ⟨O9, hO9⟩ : ∃ x, x = wT.heap.size := ⟨_, rfl⟩
          have HT9 : Hid (TAt wL O9 t9z none 0 0 none 0 0) := by rw [hwn, hO9]; exact tAt_new _ _ _ _ _ _ _ _
          have HO9 : Hid (w30.heap.size ≤ O9) := by rw [hO9]; exact hS.size
          have HDT2 : Hid (DOk wL tn (some ⟨g, 0, none⟩) LT cc) := by rw [hwn]; exact HDT.out.old ((Below.refl _ _).alloc (Nat.le_refl _) _)
          clear HDT
          have HDT := HDT2
          clear HDT2
          rw [← hwn] at hSn ⊢
          rw [← hO9]
          clear hS hwn hO9
          have hS := hSn
          clear hSn
          go_wp2
          refine ⟨rfl, hK _ _ hS ?_⟩
          clear hK K
          refine MixH.one [false, false, false, false, false, true] 5 5 _ rfl rfl (by kernel_rfl) (by kernel_rfl) (fun K hK => ?_)
          simp only [Mix.pick]
          go_wp2_with fail
          refine Calls.mono (HPA.out wL wL g cc hS (HDT.out) ) ?_
          rintro e wP ⟨E, hE0, rfl, hbN⟩
          replace hS : Below w30.heap.size w30 wP := bthen hS hbN
          have HT9b : Hid (TAt wP O9 t9z none 0 0 none 0 0) := TAt.below HT9.out hbN
          clear HT9
          have HT9 := HT9b
          clear HT9b
          clear hbN
          go_wp2
          refine ⟨rfl, hK _ _ hS ?_⟩
          clear hK K
          refine MixH.takes [false, false, false, false, false, false, true, true, true] 2 (by kernel_rfl) (by kernel_rfl) (by decide) (by kernel_rfl) hS (fun K hK => ?_)
          simp only [Mix.pick]
          repeat (go_big_quiet_step (fail))
          refine wpQuiet_nil (hK _ ?_)
          clear hK K
          refine MixH.one [false, false, false, false, false, false, false, false, false, false, true] 1 10 _ rfl rfl (by kernel_rfl) (by kernel_rfl) (fun K hK => ?_)
          simp only [Mix.pick]
          refine wpList_store_t9 (.tmp 19) (.tmp 131) rfl rfl O9 t9z none 0 0 none 0 0 t9z none 0 0 none 0 0 rfl rfl HT9.out rfl ?_
          intro wS hPS kS
          replace hS : Below w30.heap.size w30 wS := hS.trans (kS.below (fun q e => by have e' : q = O9 := e; have := HO9.out; omega) hS.size)
          clear hPS kS
          go_wp2
          refine ⟨rfl, hK _ _ hS ?_⟩
          clear hK K
          refine MixH.takes [false, false, false, false, false, false, false, false, false, false, false, true] 0 (by kernel_rfl) (by kernel_rfl) (by decide) (by kernel_rfl) hS (fun K hK => ?_)
          simp only [Mix.pick]
          repeat (go_big_quiet_step (fail))
          refine wpQuiet_nil (hK _ ?_)
          clear hK K
          refine MixH.done (by kernel_rfl) ?_
          have bE : ((E : Int) != 0) = true := by rw [bne_iff_ne]; omega
          have belF := bthen bel30 hS
          clear hE0
          by_cases h1 : bit < 96
          · have h1' : ¬ (96 : Int) ≤ bit := by omega
            go_wp2_with fail
            refine Calls.mono (num9_any (E : Int) _) ?_
            rintro e wn ⟨rfl, rfl⟩
            go_wp2
            go_ret
            exact ⟨rfl, belF⟩
          by_cases h2 : bit < 100
          · have h1' : (96 : Int) ≤ bit := by omega
            go_wp2_with fail
            refine Calls.mono (num9_any (E : Int) _) ?_
            rintro e wn ⟨rfl, rfl⟩
            go_wp2
            go_ret
            exact ⟨rfl, belF⟩
          have h1' : (96 : Int) ≤ bit := by omega
          have h2' : (100 : Int) ≤ bit := by omega
          go_wp2_with fail
          refine Calls.mono (num9_any (E : Int) _) ?_
          rintro e wn ⟨rfl, rfl⟩
          go_wp2
          go_ret
          exact ⟨rfl, belF⟩
      · simp only [Mix.pick]
        have hSn : Below w30.heap.size w30 (wA.alloc (.cells (tC t9z none 0 0 none 0 0) 39)) := hS.alloc hS.size _
        refine wpList_alloc_t9 rfl rfl ?_
        obtain ⟨wL, hwn⟩ : ∃ x, x = wA.alloc (.cells (tC t9z none 0 0 none 0 0) 39) := ⟨_, rfl⟩
        obtain ⟨O9, hO9⟩ : ∃ x, x = wA.heap.size := ⟨_, rfl⟩
        have HT9 : Hid (TAt wL O9 t9z none 0 0 none 0 0) := by rw [hwn, hO9]; exact tAt_new _ _ _ _ _ _ _ _
        have HO9 : Hid (w30.heap.size ≤ O9) := by rw [hO9]; exact hS.size
        rw [← hwn] at hSn ⊢
        rw [← hO9]
        clear hS hwn hO9
        have hS := hSn
        clear hSn
        go_wp2
        refine ⟨rfl, hK _ _ hS ?_⟩
        clear hK K
        refine MixH.one [false, false, false, false, true] 6 4 _ rfl rfl (by kernel_rfl) (by kernel_rfl) (fun K hK => ?_)
        simp only [Mix.pick]
        go_wp2_with fail
        refine Calls.mono (HTN.out wL hS) ?_
        rintro e wT ⟨g, cc, rfl, hbN, hdT⟩
        have HDT : Hid (DOk wT tn (some ⟨g, 0, none⟩) LT cc) := hdT
        replace hS : Below w30.heap.size w30 wT := bthen hS hbN
        have HT9b : Hid (TAt wT O9 t9z none 0 0 none 0 0) := TAt.below HT9.out hbN
        clear HT9
        have HT9 := HT9b
        clear HT9b
        clear hbN hdT
        go_wp2
        refine ⟨rfl, hK _ _ hS ?_⟩
        clear hK K
        refine MixH.one [false, false, false, false, false, true] 5 5 _ rfl rfl (by kernel_rfl) (by kernel_rfl) (fun K hK => ?_)
        simp only [Mix.pick]
        go_wp2_with fail
        refine Calls.mono (HPA.out wT wT g cc hS (HDT.out) ) ?_
        rintro e wP ⟨E, hE0, rfl, hbN⟩
        replace hS : Below w30.heap.size w30 wP := bthen hS hbN
        have HT9b : Hid (TAt wP O9 t9z none 0 0 none 0 0) := TAt.below HT9.out hbN
        clear HT9
        have HT9 := HT9b
        clear HT9b
        clear hbN
        go_wp2
        refine ⟨rfl, hK _ _ hS ?_⟩
        clear hK K
        refine MixH.takes [false, false, false, false, false, false, true, true, true] 2 (by kernel_rfl) (by kernel_rfl) (by decide) (by kernel_rfl) hS (fun K hK => ?_)
        simp only [Mix.pick]
        repeat (go_big_quiet_step (fail))
        refine wpQuiet_nil (hK _ ?_)
        clear hK K
        refine MixH.one [false, false, false, false, false, false, false, false, false, false, true] 1 10 _ rfl rfl (by kernel_rfl) (by kernel_rfl) (fun K hK => ?_)
        simp only [Mix.pick]
        refine wpList_store_t9 (.tmp 19) (.tmp 131) rfl rfl O9 t9z none 0 0 none 0 0 t9z none 0 0 none 0 0 rfl rfl HT9.out rfl ?_
        intro wS hPS kS
        replace hS : Below w30.heap.size w30 wS := hS.trans (kS.below (fun q e => by have e' : q = O9 := e; have := HO9.out; omega) hS.size)
        clear hPS kS
        go_wp2
        refine ⟨rfl, hK _ _ hS ?_⟩
        clear hK K
        refine MixH.takes [false, false, false, false, false, false, false, false, false, false, false, true] 0 (by kernel_rfl) (by kernel_rfl) (by decide) (by kernel_rfl) hS (fun K hK => ?_)
        simp only [Mix.pick]
        repeat (go_big_quiet_step (fail))
        refine wpQuiet_nil (hK _ ?_)
        clear hK K
        refine MixH.done (by kernel_rfl) ?_
        have bE : ((E : Int) != 0) = true := by rw [bne_iff_ne]; omega
        have belF := bthen bel30 hS
        clear hE0
        by_cases h1 : bit < 96
        · have h1' : ¬ (96 : Int) ≤ bit := by omega
          go_wp2_with fail
          refine Calls.mono (num9_any (E : Int) _) ?_
          rintro e wn ⟨rfl, rfl⟩
          go_wp2
          go_ret
          exact ⟨rfl, belF⟩
        by_cases h2 : bit < 100
        · have h1' : (96 : Int) ≤ bit := by omega
          go_wp2_with fail
          refine Calls.mono (num9_any (E : Int) _) ?_
          rintro e wn ⟨rfl, rfl⟩
          go_wp2
          go_ret
          exact ⟨rfl, belF⟩
        have h1' : (96 : Int) ≤ bit := by omega
        have h2' : (100 : Int) ≤ bit := by omega
        go_wp2_with fail
        refine Calls.mono (num9_any (E : Int) _) ?_
        rintro e wn ⟨rfl, rfl⟩
        go_wp2
        go_ret
        exact ⟨rfl, belF⟩
    have hjl : j < L := by have := HJR.out; omega
    have hlt : bit < 8 * (L : Int) := by omega
    go_wp2_with fail
    refine Calls.mono (num9_any 0 _) ?_
    rintro e wn ⟨rfl, rfl⟩
    go_upto_if 59 with fail
    go_cut [] (fun wx => Boxed wx B V x ∧ Boxed wx (B + 1) U y ∧ TAt wx O2 t la ln lc dt mt ct ∧ Below w.heap.size w wx)
    case first =>
      have QT : Hid _ := turned_any (some ⟨g, 0, none⟩) L L ub j r w2 HD2.out hjl HR8.out L65
      rw [← HJR.out] at QT
      have HUB2 : Hid _ := HUBIT.out hns j (7 - r) hjl (by omega)
      have HNS : Hid (u.ns = false) := hns
      clear hns hlen HUBIT hjl
      go_wp2_with fail
      refine Calls.mono QT.out ?_
      rintro e w3 ⟨g2, cc, rfl, hb3, hd3⟩
      obtain ⟨un, hun⟩ : ∃ un, un = ub.set j (ub.getD j 0 ^^^ 2 ^ (7 - r)) := ⟨_, rfl⟩
      rw [← hun] at hd3
      have HUB3 : Hid _ := HUB2.out un hun
      have HD33 : Hid (DOk w3 un (some ⟨g2, 0, none⟩) L cc) := hd3
      clear QT hd3 hun HUB2 c2 w8L hlt
      have bel3 := bthen bel2 hb3
      have HX3 : Hid (Boxed w3 B V x) := HX2.out.old hb3
      have HY3 : Hid (Boxed w3 (B + 1) U y) := HY2.out.old hb3
      have HRU3 : Hid (UAt w3 O u da n c) := UAt.below HRU2.out hb3
      have HRT3 : Hid (TAt w3 O2 t la ln lc dt mt ct) := TAt.below HRT2.out hb3
      clear HX2 HY2 HRU2 HRT2
      clear hb3
      have QU : Hid _ := parseU_u V U x y (some ⟨g2, 0, none⟩) L cc un w3 (HT.out w3 bel3).u HD33.out HX.out HY.out
      rw [HPSU.out] at QU
      go_wp2_with (first | (refine wpList_load_ip (.tmp 5) rfl B V x rfl HX3.out rfl ?_) | (refine wpList_load_ip (.tmp 6) rfl (B + 1) U y rfl HY3.out rfl ?_))
      refine Calls.mono QU.out ?_
      rintro e w4 ⟨eu, uv, dv, mv, rfl, hb4, heu, hdk, h1, h2⟩
      have HEU : Hid _ := heu
      have HU1 : Hid (eu = 0 → uv ≠ u) := fun h0 => by rw [(h1 h0).1]; exact (HUB3.out (heu.symm.trans h0)).1
      have HU2 : Hid (eu = 0 → j ≠ 4 → j ≠ 5 → un.getD 6 0 = 0 ∧ un.getD 7 0 = 0) := fun h0 => (HUB3.out (heu.symm.trans h0)).2
      have HDV4 : Hid (DOk w4 uv.d dv mv mv) := hdk
      clear heu h1 h2 hdk QU
      have bel4 := bthen bel3 hb4
      have HX4 : Hid (Boxed w4 B V x) := HX3.out.old hb4
      have HY4 : Hid (Boxed w4 (B + 1) U y) := HY3.out.old hb4
      have HRU4 : Hid (UAt w4 O u da n c) := UAt.below HRU3.out hb4
      have HRT4 : Hid (TAt w4 O2 t la ln lc dt mt ct) := TAt.below HRT3.out hb4
      have HD34 : Hid (DOk w4 un (some ⟨g2, 0, none⟩) L cc) := HD33.out.old hb4
      clear HX3 HY3 HRU3 HRT3 HD33
      clear hb4
      have hl5 : Below w4.heap.size w4 (w4.alloc (.cells (uC uv dv mv mv) 28)) := (Below.refl _ _).alloc (Nat.le_refl _) _
      have un5 := uAt_new w4 uv dv mv mv
      obtain ⟨w5, hw5⟩ : ∃ w5, w5 = w4.alloc (.cells (uC uv dv mv mv) 28) := ⟨_, rfl⟩
      rw [← hw5] at hl5 un5
      have HW5 : Hid (w4.alloc (.cells #[.int .i64 uv.sp, .int .i64 uv.dp, .bool uv.ns, .slice dv mv mv] 28) = w5) := hw5.symm
      obtain ⟨OV, hOV⟩ : ∃ OV, OV = w4.heap.size := ⟨_, rfl⟩
      rw [← hOV] at un5
      have HOV5 : Hid (UAt w5 OV uv dv mv mv) := un5
      have HVs5 : Hid (w4.heap.size = OV) := hOV.symm
      have bel5 := bthen bel4 hl5
      have HX5 : Hid (Boxed w5 B V x) := HX4.out.old hl5
      have HY5 : Hid (Boxed w5 (B + 1) U y) := HY4.out.old hl5
      have HRU5 : Hid (UAt w5 O u da n c) := UAt.below HRU4.out hl5
      have HRT5 : Hid (TAt w5 O2 t la ln lc dt mt ct) := TAt.below HRT4.out hl5
      have HD35 : Hid (DOk w5 un (some ⟨g2, 0, none⟩) L cc) := HD34.out.old hl5
      have HDV5 : Hid (DOk w5 uv.d dv mv mv) := HDV4.out.old hl5
      clear HX4 HY4 HRU4 HRT4 HD34 HDV4
      clear hl5 un5 hw5 hOV
      rw [show uC uv dv mv mv = #[.int .i64 uv.sp, .int .i64 uv.dp, .bool uv.ns, .slice dv mv mv] from rfl]
      go_upto_region 10 with fail
      rw [HVs5.out, HW5.out]
      clear HVs5 HW5
      obtain ⟨q6, hq6⟩ : ∃ q, q = un.getD 6 0 := ⟨_, rfl⟩
      obtain ⟨q7, hq7⟩ : ∃ q, q = un.getD 7 0 := ⟨_, rfl⟩
      rw [← hq6, ← hq7] at HU2
      have cell6 : w5.cell? ⟨g2, 6, none⟩ = some (.int .u8 (q6 : Int)) := by rw [hq6]; exact dcell HD35.out 6 (by omega)
      have cell7 : w5.cell? ⟨g2, 7, none⟩ = some (.int .u8 (q7 : Int)) := by rw [hq7]; exact dcell HD35.out 7 (by omega)
      have HC6 : Hid (w5.cell? ⟨g2, 6, none⟩ = some (.int .u8 (q6 : Int))) := cell6
      have HC7 : Hid (w5.cell? ⟨g2, 7, none⟩ = some (.int .u8 (q7 : Int))) := cell7
      have l6 : (6 : Int) < (L : Int) := by omega
      have l7 : (7 : Int) < (L : Int) := by omega
      clear hq6 hq7 cell6 cell7
      have HLE : Hid (j = 4 ∨ j = 5 ↔ (32 ≤ bit ∧ bit < 48)) := by show _ ↔ _; have := HJR.out; have := HR8.out; omega
      by_cases h32 : bit < 32
      · have hl : ¬ (j = 4 ∨ j = 5) := by rw [HLE.out]; omega
        have r1 : bit < 32 := h32
        have r1' : ¬ (32 : Int) ≤ bit := by omega
        go_upto_region 11 with fail
        clear r1 r1' h32
        by_cases h6 : q6 = 0
        case neg =>
          have b6 : ((q6 : Int) == 0) = false := by rw [beq_eq_false_iff_ne]; omega
          have hno : ¬ (q6 = 0 ∧ q7 = 0) := fun h => h6 h.1
          have c6 := HC6.out
          go_upto_region 12 with fail
          clear c6 b6 h6
          by_cases hze : eu = 0
          · subst hze
            exfalso
            exact hno (HU2.out rfl (fun h => hl (.inl h)) (fun h => hl (.inr h)))
          · have be : ((eu : Int) == 0) = false := by rw [beq_eq_false_iff_ne]; omega
            go_wp2_with fail
            refine Calls.mono (num9_any (eu : Int) _) ?_
            rintro e wn ⟨rfl, rfl⟩
            go_wp2_with fail
            refine Calls.mono (num9_any (eu : Int) _) ?_
            rintro e wn ⟨rfl, rfl⟩
            go_wp2
            go_meet
            exact ⟨HX5.out, HY5.out, HRT5.out, bel5⟩
        by_cases h7 : q7 = 0
        case neg =>
          subst h6
          have b7 : ((q7 : Int) == 0) = false := by rw [beq_eq_false_iff_ne]; omega
          have hno : ¬ (0 = 0 ∧ q7 = 0) := fun h => h7 h.2
          have c6 := HC6.out
          have c7 := HC7.out
          go_upto_region 12 with fail
          clear c6 c7 b7 h7
          by_cases hze : eu = 0
          · subst hze
            exfalso
            exact hno (HU2.out rfl (fun h => hl (.inl h)) (fun h => hl (.inr h)))
          · have be : ((eu : Int) == 0) = false := by rw [beq_eq_false_iff_ne]; omega
            go_wp2_with fail
            refine Calls.mono (num9_any (eu : Int) _) ?_
            rintro e wn ⟨rfl, rfl⟩
            go_wp2_with fail
            refine Calls.mono (num9_any (eu : Int) _) ?_
            rintro e wn ⟨rfl, rfl⟩
            go_wp2
            go_meet
            exact ⟨HX5.out, HY5.out, HRT5.out, bel5⟩
        subst h6
        subst h7
        have c6 := HC6.out
        have c7 := HC7.out
        go_upto_region 12 with fail
        clear c6 c7
        by_cases hze : eu = 0
        · subst hze
          have HNE : Hid (uv ≠ u) := HU1.out rfl
          have QN : Hid _ := sameU_ne u uv da dv n mv c mv w5 (HK.out.old bel5) HDV5.out HNE.out
          go_wp2_with fail
          refine Calls.mono (num9_any 0 _) ?_
          rintro e wn ⟨rfl, rfl⟩
          go_wp2_with (first | (refine wpList_load_u9 (.tmp 7) rfl O u da n c rfl HRU5.out rfl ?_) | (refine wpList_load_u9 (.tmp 15) rfl OV uv dv mv mv rfl HOV5.out rfl ?_))
          refine Calls.mono QN.out ?_
          rintro e w6 ⟨rfl, hb6⟩
          clear QN
          have bel6 := bthen bel5 hb6
          have HX6 : Hid (Boxed w6 B V x) := HX5.out.old hb6
          have HY6 : Hid (Boxed w6 (B + 1) U y) := HY5.out.old hb6
          have HRT6 : Hid (TAt w6 O2 t la ln lc dt mt ct) := TAt.below HRT5.out hb6
          clear hb6
          go_wp2_with fail
          refine Calls.mono (num9_any 0 _) ?_
          rintro e wn ⟨rfl, rfl⟩
          go_wp2
          go_meet
          exact ⟨HX6.out, HY6.out, HRT6.out, bel6⟩
        · have be : ((eu : Int) == 0) = false := by rw [beq_eq_false_iff_ne]; omega
          go_wp2_with fail
          refine Calls.mono (num9_any (eu : Int) _) ?_
          rintro e wn ⟨rfl, rfl⟩
          go_wp2_with fail
          refine Calls.mono (num9_any (eu : Int) _) ?_
          rintro e wn ⟨rfl, rfl⟩
          go_wp2
          go_meet
          exact ⟨HX5.out, HY5.out, HRT5.out, bel5⟩
      by_cases h48 : bit < 48
      · have r1 : (32 : Int) ≤ bit := by omega
        go_upto_region 11 with fail
        clear r1 h32 h48
        by_cases h6 : q6 = 0
        case neg =>
          have b6 : ((q6 : Int) == 0) = false := by rw [beq_eq_false_iff_ne]; omega
          have hno : ¬ (q6 = 0 ∧ q7 = 0) := fun h => h6 h.1
          have c6 := HC6.out
          go_upto_region 12 with fail
          clear c6 b6 h6
          by_cases hze : eu = 0
          · subst hze
            have HNE : Hid (uv ≠ u) := HU1.out rfl
            have QN : Hid _ := sameU_ne u uv da dv n mv c mv w5 (HK.out.old bel5) HDV5.out HNE.out
            go_wp2_with fail
            refine Calls.mono (num9_any 0 _) ?_
            rintro e wn ⟨rfl, rfl⟩
            go_wp2_with (first | (refine wpList_load_u9 (.tmp 7) rfl O u da n c rfl HRU5.out rfl ?_) | (refine wpList_load_u9 (.tmp 15) rfl OV uv dv mv mv rfl HOV5.out rfl ?_))
            refine Calls.mono QN.out ?_
            rintro e w6 ⟨rfl, hb6⟩
            clear QN
            have bel6 := bthen bel5 hb6
            have HX6 : Hid (Boxed w6 B V x) := HX5.out.old hb6
            have HY6 : Hid (Boxed w6 (B + 1) U y) := HY5.out.old hb6
            have HRT6 : Hid (TAt w6 O2 t la ln lc dt mt ct) := TAt.below HRT5.out hb6
            clear hb6
            go_wp2_with fail
            refine Calls.mono (num9_any 0 _) ?_
            rintro e wn ⟨rfl, rfl⟩
            go_wp2
            go_meet
            exact ⟨HX6.out, HY6.out, HRT6.out, bel6⟩
          · have be : ((eu : Int) == 0) = false := by rw [beq_eq_false_iff_ne]; omega
            go_wp2_with fail
            refine Calls.mono (num9_any (eu : Int) _) ?_
            rintro e wn ⟨rfl, rfl⟩
            go_wp2_with fail
            refine Calls.mono (num9_any (eu : Int) _) ?_
            rintro e wn ⟨rfl, rfl⟩
            go_wp2
            go_meet
            exact ⟨HX5.out, HY5.out, HRT5.out, bel5⟩
        by_cases h7 : q7 = 0
        case neg =>
          subst h6
          have b7 : ((q7 : Int) == 0) = false := by rw [beq_eq_false_iff_ne]; omega
          have hno : ¬ (0 = 0 ∧ q7 = 0) := fun h => h7 h.2
          have c6 := HC6.out
          have c7 := HC7.out
          go_upto_region 12 with fail
          clear c6 c7 b7 h7
          by_cases hze : eu = 0
          · subst hze
            have HNE : Hid (uv ≠ u) := HU1.out rfl
            have QN : Hid _ := sameU_ne u uv da dv n mv c mv w5 (HK.out.old bel5) HDV5.out HNE.out
            go_wp2_with fail
            refine Calls.mono (num9_any 0 _) ?_
            rintro e wn ⟨rfl, rfl⟩
            go_wp2_with (first | (refine wpList_load_u9 (.tmp 7) rfl O u da n c rfl HRU5.out rfl ?_) | (refine wpList_load_u9 (.tmp 15) rfl OV uv dv mv mv rfl HOV5.out rfl ?_))
            refine Calls.mono QN.out ?_
            rintro e w6 ⟨rfl, hb6⟩
            clear QN
            have bel6 := bthen bel5 hb6
            have HX6 : Hid (Boxed w6 B V x) := HX5.out.old hb6
            have HY6 : Hid (Boxed w6 (B + 1) U y) := HY5.out.old hb6
            have HRT6 : Hid (TAt w6 O2 t la ln lc dt mt ct) := TAt.below HRT5.out hb6
            clear hb6
            go_wp2_with fail
            refine Calls.mono (num9_any 0 _) ?_
            rintro e wn ⟨rfl, rfl⟩
            go_wp2
            go_meet
            exact ⟨HX6.out, HY6.out, HRT6.out, bel6⟩
          · have be : ((eu : Int) == 0) = false := by rw [beq_eq_false_iff_ne]; omega
            go_wp2_with fail
            refine Calls.mono (num9_any (eu : Int) _) ?_
            rintro e wn ⟨rfl, rfl⟩
            go_wp2_with fail
            refine Calls.mono (num9_any (eu : Int) _) ?_
            rintro e wn ⟨rfl, rfl⟩
            go_wp2
            go_meet
            exact ⟨HX5.out, HY5.out, HRT5.out, bel5⟩
        subst h6
        subst h7
        have c6 := HC6.out
        have c7 := HC7.out
        go_upto_region 12 with fail
        clear c6 c7
        by_cases hze : eu = 0
        · subst hze
          have HNE : Hid (uv ≠ u) := HU1.out rfl
          have QN : Hid _ := sameU_ne u uv da dv n mv c mv w5 (HK.out.old bel5) HDV5.out HNE.out
          go_wp2_with fail
          refine Calls.mono (num9_any 0 _) ?_
          rintro e wn ⟨rfl, rfl⟩
          go_wp2_with (first | (refine wpList_load_u9 (.tmp 7) rfl O u da n c rfl HRU5.out rfl ?_) | (refine wpList_load_u9 (.tmp 15) rfl OV uv dv mv mv rfl HOV5.out rfl ?_))
          refine Calls.mono QN.out ?_
          rintro e w6 ⟨rfl, hb6⟩
          clear QN
          have bel6 := bthen bel5 hb6
          have HX6 : Hid (Boxed w6 B V x) := HX5.out.old hb6
          have HY6 : Hid (Boxed w6 (B + 1) U y) := HY5.out.old hb6
          have HRT6 : Hid (TAt w6 O2 t la ln lc dt mt ct) := TAt.below HRT5.out hb6
          clear hb6
          go_wp2_with fail
          refine Calls.mono (num9_any 0 _) ?_
          rintro e wn ⟨rfl, rfl⟩
          go_wp2
          go_meet
          exact ⟨HX6.out, HY6.out, HRT6.out, bel6⟩
        · have be : ((eu : Int) == 0) = false := by rw [beq_eq_false_iff_ne]; omega
          go_wp2_with fail
          refine Calls.mono (num9_any (eu : Int) _) ?_
          rintro e wn ⟨rfl, rfl⟩
          go_wp2_with fail
          refine Calls.mono (num9_any (eu : Int) _) ?_
          rintro e wn ⟨rfl, rfl⟩
          go_wp2
          go_meet
          exact ⟨HX5.out, HY5.out, HRT5.out, bel5⟩
      have hl : ¬ (j = 4 ∨ j = 5) := by rw [HLE.out]; omega
      have r1 : (32 : Int) ≤ bit := by omega
      have r2 : ¬ bit < 48 := h48
      go_upto_region 11 with fail
      clear r1 r2 h32 h48
      by_cases h6 : q6 = 0
      case neg =>
        have b6 : ((q6 : Int) == 0) = false := by rw [beq_eq_false_iff_ne]; omega
        have hno : ¬ (q6 = 0 ∧ q7 = 0) := fun h => h6 h.1
        have c6 := HC6.out
        go_upto_region 12 with fail
        clear c6 b6 h6
        by_cases hze : eu = 0
        · subst hze
          exfalso
          exact hno (HU2.out rfl (fun h => hl (.inl h)) (fun h => hl (.inr h)))
        · have be : ((eu : Int) == 0) = false := by rw [beq_eq_false_iff_ne]; omega
          go_wp2_with fail
          refine Calls.mono (num9_any (eu : Int) _) ?_
          rintro e wn ⟨rfl, rfl⟩
          go_wp2_with fail
          refine Calls.mono (num9_any (eu : Int) _) ?_
          rintro e wn ⟨rfl, rfl⟩
          go_wp2
          go_meet
          exact ⟨HX5.out, HY5.out, HRT5.out, bel5⟩
      by_cases h7 : q7 = 0
      case neg =>
        subst h6
        have b7 : ((q7 : Int) == 0) = false := by rw [beq_eq_false_iff_ne]; omega
        have hno : ¬ (0 = 0 ∧ q7 = 0) := fun h => h7 h.2
        have c6 := HC6.out
        have c7 := HC7.out
        go_upto_region 12 with fail
        clear c6 c7 b7 h7
        by_cases hze : eu = 0
        · subst hze
          exfalso
          exact hno (HU2.out rfl (fun h => hl (.inl h)) (fun h => hl (.inr h)))
        · have be : ((eu : Int) == 0) = false := by rw [beq_eq_false_iff_ne]; omega
          go_wp2_with fail
          refine Calls.mono (num9_any (eu : Int) _) ?_
          rintro e wn ⟨rfl, rfl⟩
          go_wp2_with fail
          refine Calls.mono (num9_any (eu : Int) _) ?_
          rintro e wn ⟨rfl, rfl⟩
          go_wp2
          go_meet
          exact ⟨HX5.out, HY5.out, HRT5.out, bel5⟩
      subst h6
      subst h7
      have c6 := HC6.out
      have c7 := HC7.out
      go_upto_region 12 with fail
      clear c6 c7
      by_cases hze : eu = 0
      · subst hze
        have HNE : Hid (uv ≠ u) := HU1.out rfl
        have QN : Hid _ := sameU_ne u uv da dv n mv c mv w5 (HK.out.old bel5) HDV5.out HNE.out
        go_wp2_with fail
        refine Calls.mono (num9_any 0 _) ?_
        rintro e wn ⟨rfl, rfl⟩
        go_wp2_with (first | (refine wpList_load_u9 (.tmp 7) rfl O u da n c rfl HRU5.out rfl ?_) | (refine wpList_load_u9 (.tmp 15) rfl OV uv dv mv mv rfl HOV5.out rfl ?_))
        refine Calls.mono QN.out ?_
        rintro e w6 ⟨rfl, hb6⟩
        clear QN
        have bel6 := bthen bel5 hb6
        have HX6 : Hid (Boxed w6 B V x) := HX5.out.old hb6
        have HY6 : Hid (Boxed w6 (B + 1) U y) := HY5.out.old hb6
        have HRT6 : Hid (TAt w6 O2 t la ln lc dt mt ct) := TAt.below HRT5.out hb6
        clear hb6
        go_wp2_with fail
        refine Calls.mono (num9_any 0 _) ?_
        rintro e wn ⟨rfl, rfl⟩
        go_wp2
        go_meet
        exact ⟨HX6.out, HY6.out, HRT6.out, bel6⟩
      · have be : ((eu : Int) == 0) = false := by rw [beq_eq_false_iff_ne]; omega
        go_wp2_with fail
        refine Calls.mono (num9_any (eu : Int) _) ?_
        rintro e wn ⟨rfl, rfl⟩
        go_wp2_with fail
        refine Calls.mono (num9_any (eu : Int) _) ?_
        rintro e wn ⟨rfl, rfl⟩
        go_wp2
        go_meet
        exact ⟨HX5.out, HY5.out, HRT5.out, bel5⟩
    case rest =>
    obtain ⟨x20, y20, t20, bel20⟩ := hcut
    have HX20 : Hid (Boxed wc B V x) := x20
    have HY20 : Hid (Boxed wc (B + 1) U y) := y20
    have HRT20 : Hid (TAt wc O2 t la ln lc dt mt ct) := t20
    clear x20 y20 t20 HX2 HY2 HRT2 HRU2 bel2 w8L HUBIT HD2 L65 L8 c2 hns hlen hjl hlt
    obtain ⟨w20, hw20⟩ : ∃ w20, w20 = wc := ⟨_, rfl⟩
    rw [← hw20] at HX20 HY20 HRT20 bel20 ⊢
    clear hw20
    have QP : Hid _ := putT_any V U x y t la ln lc os dt mt ct w20 (HT.out w20 bel20).t (HT.out w20 bel20).l (HKT.out.old bel20) HX.out HY.out
    go_wp2_with (first | (refine wpList_load_ip (.tmp 5) rfl B V x rfl HX20.out rfl ?_) | (refine wpList_load_ip (.tmp 6) rfl (B + 1) U y rfl HY20.out rfl ?_) | (refine wpList_load_t9 (.tmp 8) rfl O2 t la ln lc dt mt ct rfl HRT20.out rfl ?_))
    refine Calls.mono QP.out ?_
    rintro e w30 ⟨v3, ef, rfl, hef, hb30, hr30⟩
    clear QP
    have bel30 := bthen bel20 hb30
    have HX30 : Hid (Boxed w30 B V x) := HX20.out.old hb30
    have HY30 : Hid (Boxed w30 (B + 1) U y) := HY20.out.old hb30
    have HRT30 : Hid (TAt w30 O2 t la ln lc dt mt ct) := TAt.below HRT20.out hb30
    clear HX20 HY20 HRT20
    clear hb30
    by_cases hzf : ef = 0
    case neg =>
      obtain rfl : v3 = .slice none 0 0 := by
        rcases hr30 with ⟨h, _⟩ | ⟨_, h⟩
        · exact absurd h hzf
        · exact h
      have b1 : ((ef : Int) != 0) = true := by rw [bne_iff_ne]; omega
      clear hr30 hef hzf
      go_wp2_with fail
      refine Calls.mono (num9_any (ef : Int) _) ?_
      rintro e wn ⟨rfl, rfl⟩
      go_wp2
      go_ret
      exact ⟨rfl, bel30⟩
    subst hzf
    have hok : psOk V U x y = true ∧ L4.tChk t = 0 := by
      have h := hef.symm
      unfold L4.tPutE at h
      cases hp : psOk V U x y with
      | true => rw [hp, if_pos rfl] at h; exact ⟨rfl, h⟩
      | false => rw [hp] at h; cases h
    obtain ⟨LT, hLT⟩ : ∃ LT, LT = 20 + (I4.putO t.os).length + mt := ⟨_, rfl⟩
    have L65 : LT ≤ 65535 := by have := (L4.tChk_zero hok.2).2.2; rw [HKT.out.d.dl] at this; omega
    obtain ⟨pt, hpt⟩ : ∃ pt, pt = psL V U x y 6 (LT : Nat) := ⟨_, rfl⟩
    obtain ⟨tb, htb⟩ : ∃ tb, tb = L4.tSer t pt := ⟨_, rfl⟩
    obtain ⟨g3, rfl, ho3⟩ : ∃ g, v3 = .slice (some ⟨g, 0, none⟩) LT LT ∧ OwnB w30 w20.heap.size (.slice (some ⟨g, 0, none⟩) LT LT) LT tb := by
      rcases hr30 with ⟨_, g, h1, h2⟩ | ⟨h1, _⟩
      · rw [← hLT] at h1 h2
        rw [← hpt, ← htb] at h2
        exact ⟨g, h1, h2⟩
      · exact absurd rfl h1
    have htl : tb.length = LT := by rw [htb, L4.tSer_len, HKT.out.d.dl, hLT]
    have ht256 : ∀ z ∈ tb, z < 256 := by rw [htb]; exact tSer_256 HKT.out hok.2 pt
    have HD30 : Hid (DOk w30 tb (some ⟨g3, 0, none⟩) LT LT) := ⟨htl, (owns_seg_at ho3).1, ht256, Nat.le_refl _, by omega, by omega⟩
    have HTBIT : Hid (∀ i s, i < LT → s < 8 → L4.tPE true pt (tb.set i (tb.getD i 0 ^^^ 2 ^ s)) ≠ 0) := by
      intro i s hi hs
      rw [htb]
      exact tcp_bit t pt (by rw [hpt]; exact psL_even _ _ _ _ _ _) (by rw [← htb]; exact ht256) i s (by rw [← htb, htl]; exact hi) hs
    have HPT : Hid (pt = psL V U x y 6 (LT : Nat)) := hpt
    have HPS : Hid (psOk V U x y = true) := hok.1
    have w8L : IntKind.i64.wrap (8 * (LT : Int)) = 8 * (LT : Int) := by rw [IntKind.wrap_i64]; omega
    clear hr30 hef hok hLT hpt htb ho3 htl ht256
    go_wp2_with fail
    refine Calls.mono (num9_any 0 _) ?_
    rintro e wn ⟨rfl, rfl⟩
    by_cases hlen : 8 * (LT : Int) ≤ bit
    case pos =>
      go_wp2
      go_ret
      exact ⟨rfl, bel30⟩
    have hjl : j < LT := by have := HJR.out; omega
    have HTN : Hid (∀ A, Below w30.heap.size w30 A → Calls Tryd.prog 22 #[.slice (some ⟨g3, 0, none⟩) LT LT, .int .i64 bit] A fun e w' => ∃ g c, e = .returned (.slice (some ⟨g, 0, none⟩) LT c) ∧ Below A.heap.size A w' ∧ DOk w' (tb.set j (tb.getD j 0 ^^^ 2 ^ (7 - r))) (some ⟨g, 0, none⟩) LT c) := by
      intro A hA
      rw [HJR.out]
      exact turned_any (some ⟨g3, 0, none⟩) LT LT tb j r A (HD30.out.old hA) hjl HR8.out L65
    have HE0 : Hid (L4.tPE true pt (tb.set j (tb.getD j 0 ^^^ 2 ^ (7 - r))) ≠ 0) := HTBIT.out j (7 - r) hjl (by omega)
    obtain ⟨tn, htn⟩ : ∃ tn, tn = tb.set j (tb.getD j 0 ^^^ 2 ^ (7 - r)) := ⟨_, rfl⟩
    rw [← htn] at HTN HE0
    have HPA : Hid (∀ (A A0 : World) (g c : Nat), Below w30.heap.size w30 A → DOk A tn (some ⟨g, 0, none⟩) LT c → Calls Tryd.prog 16 #[.agg (ipCells V x), .agg (ipCells U y), .slice (some ⟨g, 0, none⟩) LT c] A fun e w' => ∃ E : Nat, E ≠ 0 ∧ e = .returned (.tuple #[.agg (tC t9z none 0 0 none 0 0), .int .i64 (E : Nat)]) ∧ Below A.heap.size A w') := by
      intro A A0 g c hA hD
      have bA := bthen bel30 hA
      refine (parseT_u V U x y (some ⟨g, 0, none⟩) LT c tn A (HT.out A bA).t (HT.out A bA).l hD HX.out HY.out).mono ?_
      rintro e w' ⟨E, t', la', ln', lc', os', da', m', rfl, hb, hE, _, _, h2, _⟩
      rw [HPS.out, ← HPT.out] at hE
      have hE0 : E ≠ 0 := by rw [hE]; exact HE0.out
      obtain ⟨rfl, rfl, rfl, rfl, rfl, rfl, rfl⟩ := h2 hE0
      exact ⟨E, hE0, rfl, hb⟩
    clear htn HE0 HTBIT hjl
    have hlt3 : bit < 8 * (LT : Int) := by omega
    go_upto_region 17 with fail
    clear hlen w8L hlt3
    refine MixH.start (fun A => Below w30.heap.size w30 A) (by kernel_rfl) ?_
    obtain ⟨wA, hwA⟩ : ∃ wA, wA = w30.drew := ⟨_, rfl⟩
    have hS : Below w30.heap.size w30 wA := by rw [hwA]; exact (Below.refl _ _).drew
    rw [← hwA]
    clear hwA
    refine MixH.take 11 0 _ (.agg (ipCells V x)) rfl (by kernel_rfl) (by kernel_rfl) (by kernel_rfl) (by kernel_rfl) (yields_ip (.tmp 5) rfl B V x rfl rfl (fun A hA => HX30.out.old hA)) hS (fun a' ha => ?_)
    simp only [Act.put, List.setIfInBounds_toArray, List.set_cons_succ, List.set_cons_zero] at ha
    subst ha
    refine MixH.take 10 1 _ (.agg (ipCells U y)) rfl (by kernel_rfl) (by kernel_rfl) (by kernel_rfl) (by kernel_rfl) (yields_ip (.tmp 6) rfl (B + 1) U y rfl rfl (fun A hA => HY30.out.old hA)) hS (fun a' ha => ?_)
    simp only [Act.put, List.setIfInBounds_toArray, List.set_cons_succ, List.set_cons_zero] at ha
    subst ha
    refine MixH.takes [false, false, true, true] 8 (by kernel_rfl) (by kernel_rfl) (by decide) (by kernel_rfl) hS (fun K hK => ?_)
    simp only [Mix.pick]
    repeat (go_big_quiet_step (fail))
    refine wpQuiet_nil (hK _ ?_)
    clear hK K
    refine MixH.pair [false, false, false, false, true] [false, false, false, false, false, false, false, false, false, true] 7 4 9 _ _ rfl rfl rfl rfl (by kernel_rfl) (by kernel_rfl) (fun K hK => ?_) (fun K hK => ?_)
    · simp only [Mix.pick]
      go_wp2_with fail
      refine Calls.mono (HTN.out wA hS) ?_
      rintro e wT ⟨g, cc, rfl, hbN, hdT⟩
      have HDT : Hid (DOk wT tn (some ⟨g, 0, none⟩) LT cc) := hdT
      replace hS : Below w30.heap.size w30 wT := bthen hS hbN
      clear hbN hdT
      go_wp2
      refine ⟨rfl, hK _ _ hS ?_⟩
      clear hK K
      refine MixH.pair [false, false, false, false, false, true] [false, false, false, false, false, false, false, false, false, true] 6 5 9 _ _ rfl rfl rfl rfl (by kernel_rfl) (by kernel_rfl) (fun K hK => ?_) (fun K hK => ?_)
      · simp only [Mix.pick]
        go_wp2_with fail
        refine Calls.mono (HPA.out wT wT g cc hS (HDT.out) ) ?_
        rintro e wP ⟨E, hE0, rfl, hbN⟩
        replace hS : Below w30.heap.size w30 wP := bthen hS hbN
        clear hbN
        go_wp2
        refine ⟨rfl, hK _ _ hS ?_⟩
        clear hK K
        refine MixH.takes [false, false, false, false, false, false, true, true, true] 3 (by kernel_rfl) (by kernel_rfl) (by decide) (by kernel_rfl) hS (fun K hK => ?_)
        simp only [Mix.pick]
        repeat (go_big_quiet_step (fail))
        refine wpQuiet_nil (hK _ ?_)
        clear hK K
        refine MixH.one [false, false, false, false, false, false, false, false, false, true] 2 9 _ rfl rfl (by kernel_rfl) (by kernel_rfl) (fun K hK => ?_)
        simp only [Mix.pick]
        have hSn : Below w30.heap.size w30 (wP.alloc (.cells (tC t9z none 0 0 none 0 0) 39)) := hS.alloc hS.size _
        refine wpList_alloc_t9 rfl rfl ?_
        obtain ⟨wL, hwn⟩ : ∃ x, x = wP.alloc (.cells (tC t9z none 0 0 none 0 0) 39) := ⟨_, rfl⟩
        obtain ⟨O9, hO9⟩ : ∃ x, x = wP.heap.size := ⟨_, rfl⟩
        have HT9 : Hid (TAt wL O9 t9z none 0 0 none 0 0) := by rw [hwn, hO9]; exact tAt_new _ _ _ _ _ _ _ _
        have HO9 : Hid (w30.heap.size ≤ O9) := by rw [hO9]; exact hS.size
        rw [← hwn] at hSn ⊢
        rw [← hO9]
        clear hS hwn hO9
        have hS := hSn
        clear hSn
        go_wp2
        refine ⟨rfl, hK _ _ hS ?_⟩
        clear hK K
        refine MixH.one [false, false, false, false, false, false, false, false, false, false, true] 1 10 _ rfl rfl (by kernel_rfl) (by kernel_rfl) (fun K hK => ?_)
        simp only [Mix.pick]
        refine wpList_store_t9 (.tmp 19) (.tmp 131) rfl rfl O9 t9z none 0 0 none 0 0 t9z none 0 0 none 0 0 rfl rfl HT9.out rfl ?_
        intro wS hPS kS
        replace hS : Below w30.heap.size w30 wS := hS.trans (kS.below (fun q e => by have e' : q = O9 := e; have := HO9.out; omega) hS.size)
        clear hPS kS
        go_wp2
        refine ⟨rfl, hK _ _ hS ?_⟩
        clear hK K
        refine MixH.takes [false, false, false, false, false, false, false, false, false, false, false, true] 0 (by kernel_rfl) (by kernel_rfl) (by decide) (by kernel_rfl) hS (fun K hK => ?_)
        simp only [Mix.pick]
        repeat (go_big_quiet_step (fail))
        refine wpQuiet_nil (hK _ ?_)
        clear hK K
        refine MixH.done (by kernel_rfl) ?_
        have bE : ((E : Int) != 0) = true := by rw [bne_iff_ne]; omega
        have belF := bthen bel30 hS
        clear hE0
        by_cases h1 : bit < 96
        · have h1' : ¬ (96 : Int) ≤ bit := by omega
          go_wp2_with fail
          refine Calls.mono (num9_any (E : Int) _) ?_
          rintro e wn ⟨rfl, rfl⟩
          go_wp2
          go_ret
          exact ⟨rfl, belF⟩
        by_cases h2 : bit < 100
        · have h1' : (96 : Int) ≤ bit := by omega
          go_wp2_with fail
          refine Calls.mono (num9_any (E : Int) _) ?_
          rintro e wn ⟨rfl, rfl⟩
          go_wp2
          go_ret
          exact ⟨rfl, belF⟩
        have h1' : (96 : Int) ≤ bit := by omega
        have h2' : (100 : Int) ≤ bit := by omega
        go_wp2_with fail
        refine Calls.mono (num9_any (E : Int) _) ?_
        rintro e wn ⟨rfl, rfl⟩
        go_wp2
        go_ret
        exact ⟨rfl, belF⟩
      · simp only [Mix.pick]
        have hSn : Below w30.heap.size w30 (wT.alloc (.cells (tC t9z none 0 0 none 0 0) 39)) := hS.alloc hS.size _
        refine wpList_alloc_t9 rfl rfl ?_
        obtain ⟨wL, hwn⟩ : ∃ x, x = wT.alloc (.cells (tC t9z none 0 0 none 0 0) 39) := ⟨_, rfl⟩
        obtain ⟨O9, hO9⟩ : ∃ x, x = wT.heap.size := ⟨_, rfl⟩
        have HT9 : Hid (TAt wL O9 t9z none 0 0 none 0 0) := by rw [hwn, hO9]; exact tAt_new _ _ _ _ _ _ _ _
        have HO9 : Hid (w30.heap.size ≤ O9) := by rw [hO9]; exact hS.size
        have HDT2 : Hid (DOk wL tn (some ⟨g, 0, none⟩) LT cc) := by rw [hwn]; exact HDT.out.old ((Below.refl _ _).alloc (Nat.le_refl _) _)
        clear HDT
        have HDT := HDT2
        clear HDT2
        rw [← hwn] at hSn ⊢
        rw [← hO9]
        clear hS hwn hO9
        have hS := hSn
        clear hSn
        go_wp2
        refine ⟨rfl, hK _ _ hS ?_⟩
        clear hK K
        refine MixH.one [false, false, false, false, false, true] 5 5 _ rfl rfl (by kernel_rfl) (by kernel_rfl) (fun K hK => ?_)
        simp only [Mix.pick]
        go_wp2_with fail
        refine Calls.mono (HPA.out wL wL g cc hS (HDT.out) ) ?_
        rintro e wP ⟨E, hE0, rfl, hbN⟩
        replace hS : Below w30.heap.size w30 wP := bthen hS hbN
        have HT9b : Hid (TAt wP O9 t9z none 0 0 none 0 0) := TAt.below HT9.out hbN
        clear HT9
        have HT9 := HT9b
        clear HT9b
        clear hbN
        go_wp2
        refine ⟨rfl, hK _ _ hS ?_⟩
        clear hK K
        refine MixH.takes [false, false, false, false, false, false, true, true, true] 2 (by kernel_rfl) (by kernel_rfl) (by decide) (by kernel_rfl) hS (fun K hK => ?_)
        simp only [Mix.pick]
        repeat (go_big_quiet_step (fail))
        refine wpQuiet_nil (hK _ ?_)
        clear hK K
        refine MixH.one [false, false, false, false, false, false, false, false, false, false, true] 1 10 _ rfl rfl (by kernel_rfl) (by kernel_rfl) (fun K hK => ?_)
        simp only [Mix.pick]
        refine wpList_store_t9 (.tmp 19) (.tmp 131) rfl rfl O9 t9z none 0 0 none 0 0 t9z none 0 0 none 0 0 rfl rfl HT9.out rfl ?_
        intro wS hPS kS
        replace hS : Below w30.heap.size w30 wS := hS.trans (kS.below (fun q e => by have e' : q = O9 := e; have := HO9.out; omega) hS.size)
        clear hPS kS
        go_wp2
        refine ⟨rfl, hK _ _ hS ?_⟩
        clear hK K
        refine MixH.takes [false, false, false, false, false, false, false, false, false, false, false, true] 0 (by kernel_rfl) (by kernel_rfl) (by decide) (by kernel_rfl) hS (fun K hK => ?_)
        simp only [Mix.pick]
        repeat (go_big_quiet_step (fail))
        refine wpQuiet_nil (hK _ ?_)
        clear hK K
        refine MixH.done (by kernel_rfl) ?_
        have bE : ((E : Int) != 0) = true := by rw [bne_iff_ne]; omega
        have belF := bthen bel30 hS
        clear hE0
        by_cases h1 : bit < 96
        · have h1' : ¬ (96 : Int) ≤ bit := by omega
          go_wp2_with fail
          refine Calls.mono (num9_any (E : Int) _) ?_
          rintro e wn ⟨rfl, rfl⟩
          go_wp2
          go_ret
          exact ⟨rfl, belF⟩
        by_cases h2 : bit < 100
        · have h1' : (96 : Int) ≤ bit := by omega
          go_wp2_with fail
          refine Calls.mono (num9_any (E : Int) _) ?_
          rintro e wn ⟨rfl, rfl⟩
          go_wp2
          go_ret
          exact ⟨rfl, belF⟩
        have h1' : (96 : Int) ≤ bit := by omega
        have h2' : (100 : Int) ≤ bit := by omega
        go_wp2_with fail
        refine Calls.mono (num9_any (E : Int) _) ?_
        rintro e wn ⟨rfl, rfl⟩
        go_wp2
        go_ret
        exact ⟨rfl, belF⟩
    · simp only [Mix.pick]
      have hSn : Below w30.heap.size w30 (wA.alloc (.cells (tC t9z none 0 0 none 0 0) 39)) := hS.alloc hS.size _
      refine wpList_alloc_t9 rfl rfl ?_
      obtain ⟨wL, hwn⟩ : ∃ x, x = wA.alloc (.cells (tC t9z none 0 0 none 0 0) 39) := ⟨_, rfl⟩
      obtain ⟨O9, hO9⟩ : ∃ x, x = wA.heap.size := ⟨_, rfl⟩
      have HT9 : Hid (TAt wL O9 t9z none 0 0 none 0 0) := by rw [hwn, hO9]; exact tAt_new _ _ _ _ _ _ _ _
      have HO9 : Hid (w30.heap.size ≤ O9) := by rw [hO9]; exact hS.size
      rw [← hwn] at hSn ⊢
      rw [← hO9]
      clear hS hwn hO9
      have hS := hSn
      clear hSn
      go_wp2
      refine ⟨rfl, hK _ _ hS ?_⟩
      clear hK K
      refine MixH.one [false, false, false, false, true] 6 4 _ rfl rfl (by kernel_rfl) (by kernel_rfl) (fun K hK => ?_)
      simp only [Mix.pick]
      go_wp2_with fail
      refine Calls.mono (HTN.out wL hS) ?_
      rintro e wT ⟨g, cc, rfl, hbN, hdT⟩
      have HDT : Hid (DOk wT tn (some ⟨g, 0, none⟩) LT cc) := hdT
      replace hS : Below w30.heap.size w30 wT := bthen hS hbN
      have HT9b : Hid (TAt wT O9 t9z none 0 0 none 0 0) := TAt.below HT9.out hbN
      clear HT9
      have HT9 := HT9b
      clear HT9b
      clear hbN hdT
      go_wp2
      refine ⟨rfl, hK _ _ hS ?_⟩
      clear hK K
      refine MixH.one [false, false, false, false, false, true] 5 5 _ rfl rfl (by kernel_rfl) (by kernel_rfl) (fun K hK => ?_)
      simp only [Mix.pick]
      go_wp2_with fail
      refine Calls.mono (HPA.out wT wT g cc hS (HDT.out) ) ?_
      rintro e wP ⟨E, hE0, rfl, hbN⟩
      replace hS : Below w30.heap.size w30 wP := bthen hS hbN
      have HT9b : Hid (TAt wP O9 t9z none 0 0 none 0 0) := TAt.below HT9.out hbN
      clear HT9
      have HT9 := HT9b
      clear HT9b
      clear hbN
      go_wp2
      refine ⟨rfl, hK _ _ hS ?_⟩
      clear hK K
      refine MixH.takes [false, false, false, false, false, false, true, true, true] 2 (by kernel_rfl) (by kernel_rfl) (by decide) (by kernel_rfl) hS (fun K hK => ?_)
      simp only [Mix.pick]
      repeat (go_big_quiet_step (fail))
      refine wpQuiet_nil (hK _ ?_)
      clear hK K
      refine MixH.one [false, false, false, false, false, false, false, false, false, false, true] 1 10 _ rfl rfl (by kernel_rfl) (by kernel_rfl) (fun K hK => ?_)
      simp only [Mix.pick]
      refine wpList_store_t9 (.tmp 19) (.tmp 131) rfl rfl O9 t9z none 0 0 none 0 0 t9z none 0 0 none 0 0 rfl rfl HT9.out rfl ?_
      intro wS hPS kS
      replace hS : Below w30.heap.size w30 wS := hS.trans (kS.below (fun q e => by have e' : q = O9 := e; have := HO9.out; omega) hS.size)
      clear hPS kS
      go_wp2
      refine ⟨rfl, hK _ _ hS ?_⟩
      clear hK K
      refine MixH.takes [false, false, false, false, false, false, false, false, false, false, false, true] 0 (by kernel_rfl) (by kernel_rfl) (by decide) (by kernel_rfl) hS (fun K hK => ?_)
      simp only [Mix.pick]
      repeat (go_big_quiet_step (fail))
      refine wpQuiet_nil (hK _ ?_)
      clear hK K
      refine MixH.done (by kernel_rfl) ?_
      have bE : ((E : Int) != 0) = true := by rw [bne_iff_ne]; omega
      have belF := bthen bel30 hS
      clear hE0
      by_cases h1 : bit < 96
      · have h1' : ¬ (96 : Int) ≤ bit := by omega
        go_wp2_with fail
        refine Calls.mono (num9_any (E : Int) _) ?_
        rintro e wn ⟨rfl, rfl⟩
        go_wp2
        go_ret
        exact ⟨rfl, belF⟩
      by_cases h2 : bit < 100
      · have h1' : (96 : Int) ≤ bit := by omega
        go_wp2_with fail
        refine Calls.mono (num9_any (E : Int) _) ?_
        rintro e wn ⟨rfl, rfl⟩
        go_wp2
        go_ret
        exact ⟨rfl, belF⟩
      have h1' : (96 : Int) ≤ bit := by omega
      have h2' : (100 : Int) ≤ bit := by omega
      go_wp2_with fail
      refine Calls.mono (num9_any (E : Int) _) ?_
      rintro e wn ⟨rfl, rfl⟩
      go_wp2
      go_ret
      exact ⟨rfl, belF⟩
  · obtain rfl : v = .slice none 0 0 := by
      rcases hr2 with ⟨h, _⟩ | ⟨_, h⟩
      · exact absurd h hz
      · exact h
    have b1 : ((er : Int) == 0) = false := by rw [beq_eq_false_iff_ne]; omega
    clear hr2 her hz
    go_wp2_with fail
    refine Calls.mono (num9_any (er : Int) _) ?_
    rintro e wn ⟨rfl, rfl⟩
    go_wp2_with fail
    refine Calls.mono (num9_any (er : Int) _) ?_
    rintro e wn ⟨rfl, rfl⟩
    go_upto_region 14 with fail
    clear b1
    have QP : Hid _ := putT_any V U x y t la ln lc os dt mt ct w2 (HT.out w2 bel2).t (HT.out w2 bel2).l (HKT.out.old bel2) HX.out HY.out
    go_wp2_with (first | (refine wpList_load_ip (.tmp 5) rfl B V x rfl HX2.out rfl ?_) | (refine wpList_load_ip (.tmp 6) rfl (B + 1) U y rfl HY2.out rfl ?_) | (refine wpList_load_t9 (.tmp 8) rfl O2 t la ln lc dt mt ct rfl HRT2.out rfl ?_))
    refine Calls.mono QP.out ?_
    rintro e w30 ⟨v3, ef, rfl, hef, hb30, hr30⟩
    clear QP
    have bel30 := bthen bel2 hb30
    have HX30 : Hid (Boxed w30 B V x) := HX2.out.old hb30
    have HY30 : Hid (Boxed w30 (B + 1) U y) := HY2.out.old hb30
    have HRU30 : Hid (UAt w30 O u da n c) := UAt.below HRU2.out hb30
    have HRT30 : Hid (TAt w30 O2 t la ln lc dt mt ct) := TAt.below HRT2.out hb30
    clear HX2 HY2 HRU2 HRT2
    clear hb30
    by_cases hzf : ef = 0
    case neg =>
      obtain rfl : v3 = .slice none 0 0 := by
        rcases hr30 with ⟨h, _⟩ | ⟨_, h⟩
        · exact absurd h hzf
        · exact h
      have b1 : ((ef : Int) != 0) = true := by rw [bne_iff_ne]; omega
      clear hr30 hef hzf
      go_wp2_with fail
      refine Calls.mono (num9_any (ef : Int) _) ?_
      rintro e wn ⟨rfl, rfl⟩
      go_wp2
      go_ret
      exact ⟨rfl, bel30⟩
    subst hzf
    have hok : psOk V U x y = true ∧ L4.tChk t = 0 := by
      have h := hef.symm
      unfold L4.tPutE at h
      cases hp : psOk V U x y with
      | true => rw [hp, if_pos rfl] at h; exact ⟨rfl, h⟩
      | false => rw [hp] at h; cases h
    obtain ⟨LT, hLT⟩ : ∃ LT, LT = 20 + (I4.putO t.os).length + mt := ⟨_, rfl⟩
    have L65 : LT ≤ 65535 := by have := (L4.tChk_zero hok.2).2.2; rw [HKT.out.d.dl] at this; omega
    obtain ⟨pt, hpt⟩ : ∃ pt, pt = psL V U x y 6 (LT : Nat) := ⟨_, rfl⟩
    obtain ⟨tb, htb⟩ : ∃ tb, tb = L4.tSer t pt := ⟨_, rfl⟩
    obtain ⟨g3, rfl, ho3⟩ : ∃ g, v3 = .slice (some ⟨g, 0, none⟩) LT LT ∧ OwnB w30 w2.heap.size (.slice (some ⟨g, 0, none⟩) LT LT) LT tb := by
      rcases hr30 with ⟨_, g, h1, h2⟩ | ⟨h1, _⟩
      · rw [← hLT] at h1 h2
        rw [← hpt, ← htb] at h2
        exact ⟨g, h1, h2⟩
      · exact absurd rfl h1
    have htl : tb.length = LT := by rw [htb, L4.tSer_len, HKT.out.d.dl, hLT]
    have ht256 : ∀ z ∈ tb, z < 256 := by rw [htb]; exact tSer_256 HKT.out hok.2 pt
    have HD30 : Hid (DOk w30 tb (some ⟨g3, 0, none⟩) LT LT) := ⟨htl, (owns_seg_at ho3).1, ht256, Nat.le_refl _, by omega, by omega⟩
    have HTBIT : Hid (∀ i s, i < LT → s < 8 → L4.tPE true pt (tb.set i (tb.getD i 0 ^^^ 2 ^ s)) ≠ 0) := by
      intro i s hi hs
      rw [htb]
      exact tcp_bit t pt (by rw [hpt]; exact psL_even _ _ _ _ _ _) (by rw [← htb]; exact ht256) i s (by rw [← htb, htl]; exact hi) hs
    have HPT : Hid (pt = psL V U x y 6 (LT : Nat)) := hpt
    have HPS : Hid (psOk V U x y = true) := hok.1
    have w8L : IntKind.i64.wrap (8 * (LT : Int)) = 8 * (LT : Int) := by rw [IntKind.wrap_i64]; omega
    clear hr30 hef hok hLT hpt htb ho3 htl ht256
    go_wp2_with fail
    refine Calls.mono (num9_any 0 _) ?_
    rintro e wn ⟨rfl, rfl⟩
    by_cases hlen : 8 * (LT : Int) ≤ bit
    case pos =>
      go_wp2
      go_ret
      exact ⟨rfl, bel30⟩
    have hjl : j < LT := by have := HJR.out; omega
    have HTN : Hid (∀ A, Below w30.heap.size w30 A → Calls Tryd.prog 22 #[.slice (some ⟨g3, 0, none⟩) LT LT, .int .i64 bit] A fun e w' => ∃ g c, e = .returned (.slice (some ⟨g, 0, none⟩) LT c) ∧ Below A.heap.size A w' ∧ DOk w' (tb.set j (tb.getD j 0 ^^^ 2 ^ (7 - r))) (some ⟨g, 0, none⟩) LT c) := by
      intro A hA
      rw [HJR.out]
      exact turned_any (some ⟨g3, 0, none⟩) LT LT tb j r A (HD30.out.old hA) hjl HR8.out L65
    have HE0 : Hid (L4.tPE true pt (tb.set j (tb.getD j 0 ^^^ 2 ^ (7 - r))) ≠ 0) := HTBIT.out j (7 - r) hjl (by omega)
    obtain ⟨tn, htn⟩ : ∃ tn, tn = tb.set j (tb.getD j 0 ^^^ 2 ^ (7 - r)) := ⟨_, rfl⟩
    rw [← htn] at HTN HE0
    have HPA : Hid (∀ (A A0 : World) (g c : Nat), Below w30.heap.size w30 A → DOk A tn (some ⟨g, 0, none⟩) LT c → Calls Tryd.prog 16 #[.agg (ipCells V x), .agg (ipCells U y), .slice (some ⟨g, 0, none⟩) LT c] A fun e w' => ∃ E : Nat, E ≠ 0 ∧ e = .returned (.tuple #[.agg (tC t9z none 0 0 none 0 0), .int .i64 (E : Nat)]) ∧ Below A.heap.size A w') := by
      intro A A0 g c hA hD
      have bA := bthen bel30 hA
      refine (parseT_u V U x y (some ⟨g, 0, none⟩) LT c tn A (HT.out A bA).t (HT.out A bA).l hD HX.out HY.out).mono ?_
      rintro e w' ⟨E, t', la', ln', lc', os', da', m', rfl, hb, hE, _, _, h2, _⟩
      rw [HPS.out, ← HPT.out] at hE
      have hE0 : E ≠ 0 := by rw [hE]; exact HE0.out
      obtain ⟨rfl, rfl, rfl, rfl, rfl, rfl, rfl⟩ := h2 hE0
      exact ⟨E, hE0, rfl, hb⟩
    clear htn HE0 HTBIT hjl
    have hlt3 : bit < 8 * (LT : Int) := by omega
    go_upto_region 17 with fail
    clear hlen w8L hlt3
    refine MixH.start (fun A => Below w30.heap.size w30 A) (by kernel_rfl) ?_
    obtain ⟨wA, hwA⟩ : ∃ wA, wA = w30.drew := ⟨_, rfl⟩
    have hS : Below w30.heap.size w30 wA := by rw [hwA]; exact (Below.refl _ _).drew
    rw [← hwA]
    clear hwA
    refine MixH.take 11 0 _ (.agg (ipCells V x)) rfl (by kernel_rfl) (by kernel_rfl) (by kernel_rfl) (by kernel_rfl) (yields_ip (.tmp 5) rfl B V x rfl rfl (fun A hA => HX30.out.old hA)) hS (fun a' ha => ?_)
    simp only [Act.put, List.setIfInBounds_toArray, List.set_cons_succ, List.set_cons_zero] at ha
    subst ha
    refine MixH.take 10 1 _ (.agg (ipCells U y)) rfl (by kernel_rfl) (by kernel_rfl) (by kernel_rfl) (by kernel_rfl) (yields_ip (.tmp 6) rfl (B + 1) U y rfl rfl (fun A hA => HY30.out.old hA)) hS (fun a' ha => ?_)
    simp only [Act.put, List.setIfInBounds_toArray, List.set_cons_succ, List.set_cons_zero] at ha
    subst ha
    refine MixH.takes [false, false, true, true] 8 (by kernel_rfl) (by kernel_rfl) (by decide) (by kernel_rfl) hS (fun K hK => ?_)
    simp only [Mix.pick]
    repeat (go_big_quiet_step (fail))
    refine wpQuiet_nil (hK _ ?_)
    clear hK K
    refine MixH.pair [false, false, false, false, true] [false, false, false, false, false, false, false, false, false, true] 7 4 9 _ _ rfl rfl rfl rfl (by kernel_rfl) (by kernel_rfl) (fun K hK => ?_) (fun K hK => ?_)
    · simp only [Mix.pick]
      go_wp2_with fail
      refine Calls.mono (HTN.out wA hS) ?_
      rintro e wT ⟨g, cc, rfl, hbN, hdT⟩
      have HDT : Hid (DOk wT tn (some ⟨g, 0, none⟩) LT cc) := hdT
      replace hS : Below w30.heap.size w30 wT := bthen hS hbN
      clear hbN hdT
      go_wp2
      refine ⟨rfl, hK _ _ hS ?_⟩
      clear hK K
      refine MixH.pair [false, false, false, false, false, true] [false, false, false, false, false, false, false, false, false, true] 6 5 9 _ _ rfl rfl rfl rfl (by kernel_rfl) (by kernel_rfl) (fun K hK => ?_) (fun K hK => ?_)
      · simp only [Mix.pick]
        go_wp2_with fail
        refine Calls.mono (HPA.out wT wT g cc hS (HDT.out) ) ?_
        rintro e wP ⟨E, hE0, rfl, hbN⟩
        replace hS : Below w30.heap.size w30 wP := bthen hS hbN
        clear hbN
        go_wp2
        refine ⟨rfl, hK _ _ hS ?_⟩
        clear hK K
        refine MixH.takes [false, false, false, false, false, false, true, true, true] 3 (by kernel_rfl) (by kernel_rfl) (by decide) (by kernel_rfl) hS (fun K hK => ?_)
        simp only [Mix.pick]
        repeat (go_big_quiet_step (fail))
        refine wpQuiet_nil (hK _ ?_)
        clear hK K
        refine MixH.one [false, false, false, false, false, false, false, false, false, true] 2 9 _ rfl rfl (by kernel_rfl) (by kernel_rfl) (fun K hK => ?_)
        simp only [Mix.pick]
        have hSn : Below w30.heap.size w30 (wP.alloc (.cells (tC t9z none 0 0 none 0 0) 39)) := hS.alloc hS.size _
        refine wpList_alloc_t9 rfl rfl ?_
        obtain ⟨wL, hwn⟩ : ∃ x, x = wP.alloc (.cells (tC t9z none 0 0 none 0 0) 39) := ⟨_, rfl⟩
        obtain ⟨O9, hO9⟩ : ∃ x, x = wP.heap.size := ⟨_, rfl⟩
        have HT9 : Hid (TAt wL O9 t9z none 0 0 none 0 0) := by rw [hwn, hO9]; exact tAt_new _ _ _ _ _ _ _ _
        have HO9 : Hid (w30.heap.size ≤ O9) := by rw [hO9]; exact hS.size
        rw [← hwn] at hSn ⊢
        rw [← hO9]
        clear hS hwn hO9
        have hS := hSn
        clear hSn
        go_wp2
        refine ⟨rfl, hK _ _ hS ?_⟩
        clear hK K
        refine MixH.one [false, false, false, false, false, false, false, false, false, false, true] 1 10 _ rfl rfl (by kernel_rfl) (by kernel_rfl) (fun K hK => ?_)
        simp only [Mix.pick]
        refine wpList_store_t9 (.tmp 19) (.tmp 131) rfl rfl O9 t9z none 0 0 none 0 0 t9z none 0 0 none 0 0 rfl rfl HT9.out rfl ?_
        intro wS hPS kS
        replace hS : Below w30.heap.size w30 wS := hS.trans (kS.below (fun q e => by have e' : q = O9 := e; have := HO9.out; omega) hS.size)
        clear hPS kS
        go_wp2
        refine ⟨rfl, hK _ _ hS ?_⟩
        clear hK K
        refine MixH.takes [false, false, false, false, false, false, false, false, false, false, false, true] 0 (by kernel_rfl) (by kernel_rfl) (by decide) (by kernel_rfl) hS (fun K hK => ?_)
        simp only [Mix.pick]
        repeat (go_big_quiet_step (fail))
        refine wpQuiet_nil (hK _ ?_)
        clear hK K
        refine MixH.done (by kernel_rfl) ?_
        have bE : ((E : Int) != 0) = true := by rw [bne_iff_ne]; omega
        have belF := bthen bel30 hS
        clear hE0
        by_cases h1 : bit < 96
        · have h1' : ¬ (96 : Int) ≤ bit := by omega
          go_wp2_with fail
          refine Calls.mono (num9_any (E : Int) _) ?_
          rintro e wn ⟨rfl, rfl⟩
          go_wp2
          go_ret
          exact ⟨rfl, belF⟩
        by_cases h2 : bit < 100
        · have h1' : (96 : Int) ≤ bit := by omega
          go_wp2_with fail
          refine Calls.mono (num9_any (E : Int) _) ?_
          rintro e wn ⟨rfl, rfl⟩
          go_wp2
          go_ret
          exact ⟨rfl, belF⟩
        have h1' : (96 : Int) ≤ bit := by omega
        have h2' : (100 : Int) ≤ bit := by omega
        go_wp2_with fail
        refine Calls.mono (num9_any (E : Int) _) ?_
        rintro e wn ⟨rfl, rfl⟩
        go_wp2
        go_ret
        exact ⟨rfl, belF⟩
      · simp only [Mix.pick]
        have hSn : Below w30.heap.size w30 (wT.alloc (.cells (tC t9z none 0 0 none 0 0) 39)) := hS.alloc hS.size _
        refine wpList_alloc_t9 rfl rfl ?_
        obtain ⟨wL, hwn⟩ : ∃ x, x = wT.alloc (.cells (tC t9z none 0 0 none 0 0) 39) := ⟨_, rfl⟩
        obtain ⟨O9, hO9⟩ : ∃ x, x = wT.heap.size := ⟨_, rfl⟩
        have HT9 : Hid (TAt wL O9 t9z none 0 0 none 0 0) := by rw [hwn, hO9]; exact tAt_new _ _ _ _ _ _ _ _
        have HO9 : Hid (w30.heap.size ≤ O9) := by rw [hO9]; exact hS.size
        have HDT2 : Hid (DOk wL tn (some ⟨g, 0, none⟩) LT cc) := by rw [hwn]; exact HDT.out.old ((Below.refl _ _).alloc (Nat.le_refl _) _)
        clear HDT
        have HDT := HDT2
        clear HDT2
        rw [← hwn] at hSn ⊢
        rw [← hO9]
        clear hS hwn hO9
        have hS := hSn
        clear hSn
        go_wp2
        refine ⟨rfl, hK _ _ hS ?_⟩
        clear hK K
        refine MixH.one [false, false, false, false, false, true] 5 5 _ rfl rfl (by kernel_rfl) (by kernel_rfl) (fun K hK => ?_)
        simp only [Mix.pick]
        go_wp2_with fail
        refine Calls.mono (HPA.out wL wL g cc hS (HDT.out) ) ?_
        rintro e wP ⟨E, hE0, rfl, hbN⟩
        replace hS : Below w30.heap.size w30 wP := bthen hS hbN
        have HT9b : Hid (TAt wP O9 t9z none 0 0 none 0 0) := TAt.below HT9.out hbN
        clear HT9
        have HT9 := HT9b
        clear HT9b
        clear hbN
        go_wp2
        refine ⟨rfl, hK _ _ hS ?_⟩
        clear hK K
        refine MixH.takes [false, false, false, false, false, false, true, true, true] 2 (by kernel_rfl) (by kernel_rfl) (by decide) (by kernel_rfl) hS (fun K hK => ?_)
        simp only [Mix.pick]
        repeat (go_big_quiet_step (fail))
        refine wpQuiet_nil (hK _ ?_)
        clear hK K
        refine MixH.one [false, false, false, false, false, false, false, false, false, false, true] 1 10 _ rfl rfl (by kernel_rfl) (by kernel_rfl) (fun K hK => ?_)
        simp only [Mix.pick]
        refine wpList_store_t9 (.tmp 19) (.tmp 131) rfl rfl O9 t9z none 0 0 none 0 0 t9z none 0 0 none 0 0 rfl rfl HT9.out rfl ?_
        intro wS hPS kS
        replace hS : Below w30.heap.size w30 wS := hS.trans (kS.below (fun q e => by have e' : q = O9 := e; have := HO9.out; omega) hS.size)
        clear hPS kS
        go_wp2
        refine ⟨rfl, hK _ _ hS ?_⟩
        clear hK K
        refine MixH.takes [false, false, false, false, false, false, false, false, false, false, false, true] 0 (by kernel_rfl) (by kernel_rfl) (by decide) (by kernel_rfl) hS (fun K hK => ?_)
        simp only [Mix.pick]
        repeat (go_big_quiet_step (fail))
        refine wpQuiet_nil (hK _ ?_)
        clear hK K
        refine MixH.done (by kernel_rfl) ?_
        have bE : ((E : Int) != 0) = true := by rw [bne_iff_ne]; omega
        have belF := bthen bel30 hS
        clear hE0
        by_cases h1 : bit < 96
        · have h1' : ¬ (96 : Int) ≤ bit := by omega
          go_wp2_with fail
          refine Calls.mono (num9_any (E : Int) _) ?_
          rintro e wn ⟨rfl, rfl⟩
          go_wp2
          go_ret
          exact ⟨rfl, belF⟩
        by_cases h2 : bit < 100
        · have h1' : (96 : Int) ≤ bit := by omega
          go_wp2_with fail
          refine Calls.mono (num9_any (E : Int) _) ?_
          rintro e wn ⟨rfl, rfl⟩
          go_wp2
          go_ret
          exact ⟨rfl, belF⟩
        have h1' : (96 : Int) ≤ bit := by omega
        have h2' : (100 : Int) ≤ bit := by omega
        go_wp2_with fail
        refine Calls.mono (num9_any (E : Int) _) ?_
        rintro e wn ⟨rfl, rfl⟩
        go_wp2
        go_ret
        exact ⟨rfl, belF⟩
    · simp only [Mix.pick]
      have hSn : Below w30.heap.size w30 (wA.alloc (.cells (tC t9z none 0 0 none 0 0) 39)) := hS.alloc hS.size _
      refine wpList_alloc_t9 rfl rfl ?_
      obtain ⟨wL, hwn⟩ : ∃ x, x = wA.alloc (.cells (tC t9z none 0 0 none 0 0) 39) := ⟨_, rfl⟩
      obtain ⟨O9, hO9⟩ : ∃ x, x = wA.heap.size := ⟨_, rfl⟩
      have HT9 : Hid (TAt wL O9 t9z none 0 0 none 0 0) := by rw [hwn, hO9]; exact tAt_new _ _ _ _ _ _ _ _
      have HO9 : Hid (w30.heap.size ≤ O9) := by rw [hO9]; exact hS.size
      rw [← hwn] at hSn ⊢
      rw [← hO9]
      clear hS hwn hO9
      have hS := hSn
      clear hSn
      go_wp2
      refine ⟨rfl, hK _ _ hS ?_⟩
      clear hK K
      refine MixH.one [false, false, false, false, true] 6 4 _ rfl rfl (by kernel_rfl) (by kernel_rfl) (fun K hK => ?_)
      simp only [Mix.pick]
      go_wp2_with fail
      refine Calls.mono (HTN.out wL hS) ?_
      rintro e wT ⟨g, cc, rfl, hbN, hdT⟩
      have HDT : Hid (DOk wT tn (some ⟨g, 0, none⟩) LT cc) := hdT
      replace hS : Below w30.heap.size w30 wT := bthen hS hbN
      have HT9b : Hid (TAt wT O9 t9z none 0 0 none 0 0) := TAt.below HT9.out hbN
      clear HT9
      have HT9 := HT9b
      clear HT9b
      clear hbN hdT
      go_wp2
      refine ⟨rfl, hK _ _ hS ?_⟩
      clear hK K
      refine MixH.one [false, false, false, false, false, true] 5 5 _ rfl rfl (by kernel_rfl) (by kernel_rfl) (fun K hK => ?_)
      simp only [Mix.pick]
      go_wp2_with fail
      refine Calls.mono (HPA.out wT wT g cc hS (HDT.out) ) ?_
      rintro e wP ⟨E, hE0, rfl, hbN⟩
      replace hS : Below w30.heap.size w30 wP := bthen hS hbN
      have HT9b : Hid (TAt wP O9 t9z none 0 0 none 0 0) := TAt.below HT9.out hbN
      clear HT9
      have HT9 := HT9b
      clear HT9b
      clear hbN
      go_wp2
      refine ⟨rfl, hK _ _ hS ?_⟩
      clear hK K
      refine MixH.takes [false, false, false, false, false, false, true, true, true] 2 (by kernel_rfl) (by kernel_rfl) (by decide) (by kernel_rfl) hS (fun K hK => ?_)
      simp only [Mix.pick]
      repeat (go_big_quiet_step (fail))
      refine wpQuiet_nil (hK _ ?_)
      clear hK K
      refine MixH.one [false, false, false, false, false, false, false, false, false, false, true] 1 10 _ rfl rfl (by kernel_rfl) (by kernel_rfl) (fun K hK => ?_)
      simp only [Mix.pick]
      refine wpList_store_t9 (.tmp 19) (.tmp 131) rfl rfl O9 t9z none 0 0 none 0 0 t9z none 0 0 none 0 0 rfl rfl HT9.out rfl ?_
      intro wS hPS kS
      replace hS : Below w30.heap.size w30 wS := hS.trans (kS.below (fun q e => by have e' : q = O9 := e; have := HO9.out; omega) hS.size)
      clear hPS kS
      go_wp2
      refine ⟨rfl, hK _ _ hS ?_⟩
      clear hK K
      refine MixH.takes [false, false, false, false, false, false, false, false, false, false, false, true] 0 (by kernel_rfl) (by kernel_rfl) (by decide) (by kernel_rfl) hS (fun K hK => ?_)
      simp only [Mix.pick]
      repeat (go_big_quiet_step (fail))
      refine wpQuiet_nil (hK _ ?_)
      clear hK K
      refine MixH.done (by kernel_rfl) ?_
      have bE : ((E : Int) != 0) = true := by rw [bne_iff_ne]; omega
      have belF := bthen bel30 hS
      clear hE0
      by_cases h1 : bit < 96
      · have h1' : ¬ (96 : Int) ≤ bit := by omega
        go_wp2_with fail
        refine Calls.mono (num9_any (E : Int) _) ?_
        rintro e wn ⟨rfl, rfl⟩
        go_wp2
        go_ret
        exact ⟨rfl, belF⟩
      by_cases h2 : bit < 100
      · have h1' : (96 : Int) ≤ bit := by omega
        go_wp2_with fail
        refine Calls.mono (num9_any (E : Int) _) ?_
        rintro e wn ⟨rfl, rfl⟩
        go_wp2
        go_ret
        exact ⟨rfl, belF⟩
      have h1' : (96 : Int) ≤ bit := by omega
      have h2' : (100 : Int) ≤ bit := by omega
      go_wp2_with fail
      refine Calls.mono (num9_any (E : Int) _) ?_
      rintro e wn ⟨rfl, rfl⟩
      go_wp2
      go_ret
      exact ⟨rfl, belF⟩
end Go.Proofs.YtmeieggnfmhnmaaDoor
