/-
  R6Ser R6Par R6Hop, one behind the other.
-/
import Derived.Test.YtdinhgfkpjaipaaDoorKRa
namespace Go.Proofs.YtdinhgfkpjaipaaDoor
open Go.RowKit
open I4 (H4)

theorem H4At.sxc {w : World} {O : Nat} {h : H4} {ol dl : Value} (k : H4At w O h ol dl) (j : Nat) (hj : j < 4) : w.cell? ⟨O, 8 + j, none⟩ = some (.int .u8 (h.sx j : Nat)) := by
  rw [k.cell]
  have : j = 0 ∨ j = 1 ∨ j = 2 ∨ j = 3 := by omega
  rcases this with rfl | rfl | rfl | rfl <;> rfl
theorem H4At.dxc {w : World} {O : Nat} {h : H4} {ol dl : Value} (k : H4At w O h ol dl) (j : Nat) (hj : j < 4) : w.cell? ⟨O, 25 + j, none⟩ = some (.int .u8 (h.dx j : Nat)) := by
  rw [k.cell]
  have : j = 0 ∨ j = 1 ∨ j = 2 ∨ j = 3 := by omega
  rcases this with rfl | rfl | rfl | rfl <;> rfl
theorem ipL_snoc (x : Nat → Nat) (k : Nat) : ipL x (k + 1) = ipL x k ++ [x k] := by simp [ipL, List.range_succ]
theorem hZ_eq (h : H4) : I4.hZ h = ipL h.sx 4 ++ ipL h.dx 4 := rfl
theorem chB {X : Nat} {w0 w w' : World} {v : Value} {n : Nat} {xs : List Value} (b : Below X w0 w) (hX : X ≤ w.heap.size) (ho : w.ownsRow X 5 1 v n xs) (c : Ch (fun q => v.ownBlock = some q) w w') : Below X w0 w' :=
  b.trans (c.below (fun q hq => (ho.lt q hq).1) hX)
def RSer (w : World) (h : H4) (v : Value) (w' : World) : Prop :=
  (I4.chk h = 0 ∧ ∃ va vc, v = .slice va (I4.ser h).length vc ∧ w'.ownsRow w.heap.size 5 1 v (I4.ser h).length ((toI (I4.ser h)).map (Value.int .u8))) ∨ (I4.chk h ≠ 0 ∧ v = .slice none 0 0)
set_option maxHeartbeats 12800000 in
set_option maxRecDepth 100000 in
theorem rser_any (h : H4) (la : Option Addr) (ln lc : Nat) (os : List OpV) (da : Option Addr) (n c : Nat) (w : World) (k : H4Ok w h la ln lc os da n c) (sm : H4Sm ln os n) :
    Calls Tryd.prog 72 #[.agg (h4C h (.slice la ln lc) (.slice da n c))] w fun e w' => ∃ v, e = .returned (.tuple #[v, .int .i64 (I4.chk h : Nat)]) ∧ Below w.heap.size w w' ∧ RSer w h v w' := by
  obtain ⟨i0, hi, hz0, hz1, hz2⟩ := info_parts Tryd.infoByte
  obtain ⟨W, hW⟩ : ∃ W, W = w.alloc (.cells (h4C h (.slice la ln lc) (.slice da n c)) 28) := ⟨_, rfl⟩
  obtain ⟨O, hO⟩ : ∃ O, O = w.heap.size := ⟨_, rfl⟩
  have bel : Below w.heap.size w W := by rw [hW]; exact (Below.refl _ _).alloc (Nat.le_refl _) _
  have HB : Hid (H4At W O h (.slice la ln lc) (.slice da n c)) := by rw [hW, hO]; exact h4At_new _ _ _ _
  obtain ⟨C, hC⟩ : ∃ C, C = h4C h (.slice la ln lc) (.slice da n c) := ⟨_, rfl⟩
  have HW : Hid (w.alloc (.cells C 28) = W) := by rw [hC]; exact hW.symm
  have HO : Hid (w.heap.size = O) := hO.symm
  rw [← hC]
  have HK : Hid (H4Ok w h la ln lc os da n c) := k
  have HSM : Hid (H4Sm ln os n) := sm
  have QC : Hid _ := rcheck6_any h la ln lc os da n c W (k.old bel) sm
  obtain ⟨R, hR⟩ : ∃ R, R = I4.chk h := ⟨_, rfl⟩
  rw [← hR] at QC ⊢
  have HR : Hid (R = I4.chk h) := hR
  clear hW hC hO hR k sm
  go_enter Tryd.func72, Tryd.ntmps72
  go_upto_region 1 with fail
  rw [HW.out, HO.out]
  go_wp2_with (first | (refine wpList_load_h4 _ rfl O h (.slice la ln lc) (.slice da n c) rfl HB.out rfl ?_))
  refine Calls.mono QC.out ?_
  rintro e w1 ⟨rfl, hb1⟩
  have bel1 := bthen bel hb1
  have HB1 : Hid (H4At w1 O h (.slice la ln lc) (.slice da n c)) := H4At.below HB.out hb1
  clear QC hb1 HB HW bel
  by_cases h0 : R = 0
  case neg =>
    have b1 : ((R : Int) != 0) = true := by rw [bne_iff_ne]; omega
    have HNE : Hid (I4.chk h ≠ 0) := by rw [← HR.out]; exact h0
    clear h0
    go_wp2
    go_ret2
    exact ⟨_, rfl, bel1, .inr ⟨HNE.out, rfl⟩⟩
  subst h0
  have HM : Hid (I4.May h) := (I4.chk_zero h).1 HR.out.symm
  have d41 := HB1.out.c41
  have QP : Hid _ := rput_any la ln lc os w1 HK.out.ol (HK.out.old bel1).opts HSM.out.ln HSM.out.d
  rw [← HK.out.hos] at QP
  go_wp2_with fail
  refine Calls.mono QP.out ?_
  rintro e w3 ⟨hb3, hres⟩
  have bel3 := bthen bel1 hb3
  have HB3 : Hid (H4At w3 O h (.slice la ln lc) (.slice da n c)) := H4At.below HB1.out hb3
  rcases hres with ⟨_, v, rfl, hown⟩ | ⟨hp, _⟩
  case inr => exact absurd HM.out.opt (by rw [hp]; simp)
  obtain ⟨oa, oc, rfl⟩ := owns_shape hown
  have HOO : Hid (w3.ownsRow w1.heap.size 5 1 (.slice oa (I4.putO h.os).length oc) (I4.putO h.os).length ((toI (I4.putO h.os)).map (Value.int .u8))) := hown
  have hL := I4.put_len h.os
  have hoff := HM.out.off
  obtain ⟨off, hof⟩ : ∃ off : Nat, h.off = (off : Int) := ⟨h.off.toNat, by omega⟩
  obtain ⟨tos, htos⟩ : ∃ t : Nat, h.tos = (t : Int) := ⟨h.tos.toNat, by have := HM.out.tos; omega⟩
  obtain ⟨id, hid⟩ : ∃ t : Nat, h.id = (t : Int) := ⟨h.id.toNat, by have := HM.out.id; omega⟩
  obtain ⟨ttl, httl⟩ : ∃ t : Nat, h.ttl = (t : Int) := ⟨h.ttl.toNat, by have := HM.out.ttl; omega⟩
  obtain ⟨pro, hpro⟩ : ∃ t : Nat, h.proto = (t : Int) := ⟨h.proto.toNat, by have := HM.out.proto; omega⟩
  have ltos : tos ≤ 255 := by have := HM.out.tos; omega
  have lid : id ≤ 65535 := by have := HM.out.id; omega
  have lttl : ttl ≤ 255 := by have := HM.out.ttl; omega
  have lpro : pro ≤ 255 := by have := HM.out.proto; omega
  have loff : off ≤ 65528 := by omega
  obtain ⟨L, hLL⟩ : ∃ L, L = (I4.putO h.os).length := ⟨_, rfl⟩
  rw [← hLL] at hL HOO ⊢
  have HLL : Hid (L = (I4.putO h.os).length) := hLL
  have hL40 : L ≤ 40 := hL.1
  have HL4 : Hid (L % 4 = 0) := hL.2
  have HTOT : Hid (20 + L + n ≤ 65535) := by have h1 := HM.out.tot; rw [← hLL, HK.out.dl] at h1; exact h1
  have hn := HSM.out.n
  obtain ⟨P, hP⟩ : ∃ P, P = I4.hA h (I4.serHd h) (I4.serTl h) := ⟨_, rfl⟩
  obtain ⟨wd, hwd⟩ : ∃ wd, wd = I4.wordOf h := ⟨_, rfl⟩
  have lwd : wd ≤ 32767 := by have := I4.word_lt h HM.out; omega
  have HP1 : Hid (I4.hA h (I4.serHd h) (I4.serTl h) = [64 + (20 + L) / 4, tos] ++ [(20 + L + n) / 256, (20 + L + n) % 256] ++ [id / 256, id % 256] ++ [wd / 256, wd % 256] ++ [ttl, pro]) := by
    have e1 : I4.serHd h = 20 + L := by unfold I4.serHd; rw [hLL]
    have e2 : I4.serTl h = 20 + L + n := by unfold I4.serTl; rw [e1, HK.out.dl]
    show _ = _
    unfold I4.hA
    rw [e1, e2, htos, hid, httl, hpro, hwd]
    simp
  have d4 := HB3.out.c4
  have d2 := HB3.out.c2
  have d3 := HB3.out.c3
  have d0 := HB3.out.c0
  rw [hof] at d4
  rw [htos] at d0
  have HID : Hid (h.id = (id : Int)) := hid
  have HTTL : Hid (h.ttl = (ttl : Int)) := httl
  have HPRO : Hid (h.proto = (pro : Int)) := hpro
  have wa : IntKind.i64.wrap (20 + (L : Int)) = 20 + (L : Int) := by rw [IntKind.wrap_i64]; omega
  have HWD : Hid ((wd : Int) = (if h.df then 16384 else 0) + (if h.mf then 8192 else 0) + (off : Int) / 8) := by
    show _ = _
    rw [hwd]
    unfold I4.wordOf
    rw [hof]
    cases h.df <;> cases h.mf <;> simp
  clear hwd hP hof htos hid httl hpro hL hLL hown hoff QP hb3 HB1 bel1 d41 P
  cases hdf : h.df with
  | false =>
    cases hmf : h.mf with
    | false =>
      have hwd0 : (wd : Int) = 0 + 0 + (off : Int) / 8 := by have h1 := HWD.out; rw [hdf, hmf] at h1; simpa using h1
      rw [hdf] at d2
      rw [hmf] at d3
      have HWD2 : Hid ((off : Int) / 8 = (wd : Int)) := by show _ = _; omega
      clear hwd0 HWD hdf hmf
      go_upto_region 11 with fail
      rw [HWD2.out]
      clear HWD2 d2 d3 d4
      have HA1 : Hid (64 + (20 + (L : Int)) / 4 = ((64 + (20 + L) / 4 : Nat) : Int)) := by show _ = _; omega
      have a2 : IntKind.i64.wrap (64 + (20 + (L : Int)) / 4) = 64 + (20 + (L : Int)) / 4 := by rw [IntKind.wrap_i64]; omega
      have a3 : IntKind.u8.wrap (64 + (20 + (L : Int)) / 4) = 64 + (20 + (L : Int)) / 4 := by rw [IntKind.wrap_u8]; omega
      have a4 : IntKind.u8.wrap (tos : Int) = (tos : Int) := by rw [IntKind.wrap_u8]; omega
      go_upto_region 12 with fail
      obtain ⟨X, hX⟩ : ∃ X, X = w3.heap.size := ⟨_, rfl⟩
      obtain ⟨w4, hw4⟩ : ∃ w4, w4 = w3.alloc (.cells #[.int .u8 (64 + (20 + (L : Int)) / 4), .int .u8 (tos : Int)] 5) := ⟨_, rfl⟩
      have B4 : Below X w3 w4 := by rw [hw4, hX]; exact (Below.refl _ _).alloc (Nat.le_refl _) _
      have O4 : w4.ownsRow X 5 1 (.slice (some ⟨X, 0, none⟩) 2 2) 2 ((toI [64 + (20 + L) / 4, tos]).map (Value.int .u8)) := by
        have h1 := World.ownsRow_lit (base := X) (e := 5) (size := 1) w3 #[.int .u8 (64 + (20 + (L : Int)) / 4), .int .u8 (tos : Int)] 2 (by omega) (by unfold maxLen; omega) rfl
        rw [← hw4, ← hX, HA1.out] at h1
        exact h1
      have X4 : X ≤ w4.heap.size := by rw [hX]; rw [hX] at B4; exact B4.size
      rw [← hw4, ← hX]
      have HX : Hid (X = w3.heap.size) := hX
      have HB4 : Hid (H4At w4 O h (.slice la ln lc) (.slice da n c)) := by rw [hX] at B4; exact H4At.below HB3.out B4
      have HBE4 : Hid (Below X w3 w4) := B4
      have HO4 : Hid _ := O4
      have d42 := HB4.out.c42
      have b1 : IntKind.i64.wrap (20 + (L : Int) + (n : Int)) = ((20 + L + n : Nat) : Int) := by rw [IntKind.wrap_i64]; omega
      have QA : Hid _ := add_any X (.slice (some ⟨X, 0, none⟩) 2 2) 2 (20 + L + n) [64 + (20 + L) / 4, tos] w4 rfl O4 (by omega) HTOT.out X4
      clear hX hw4 B4 O4 d0 HA1 a2 a3 a4 wa
      go_wp2_with fail
      refine Calls.mono QA.out ?_
      rintro e w5 ⟨v5, rfl, ho5, hc5, _⟩
      have HBE5 : Hid (Below X w3 w5) := chB HBE4.out X4 HO4.out hc5
      have X5 : X ≤ w5.heap.size := Nat.le_trans X4 hc5.size
      have HO5 : Hid _ := ho5
      have HB5 : Hid (H4At w5 O h (.slice la ln lc) (.slice da n c)) := by have h1 := HBE5.out; rw [HX.out] at h1; exact H4At.below HB3.out h1
      have d1 := HB5.out.c1
      rw [HID.out] at d1
      have QA2 : Hid _ := add_any X v5 4 id _ w5 rfl ho5 (by omega) lid X5
      clear QA hc5 ho5 HBE4 HO4 HB4 X4 d42 b1
      go_wp2_with fail
      refine Calls.mono QA2.out ?_
      rintro e w6 ⟨v6, rfl, ho6, hc6, _⟩
      have HBE6 : Hid (Below X w3 w6) := chB HBE5.out X5 HO5.out hc6
      have X6 : X ≤ w6.heap.size := Nat.le_trans X5 hc6.size
      have HO6 : Hid _ := ho6
      have QA3 : Hid _ := add_any X v6 6 wd _ w6 rfl ho6 (by omega) (by omega) X6
      clear QA2 hc6 ho6 HBE5 HO5 HB5 X5 d1
      go_wp2_with fail
      refine Calls.mono QA3.out ?_
      rintro e w7 ⟨v7, rfl, ho7, hc7, _⟩
      have HBE7 : Hid (Below X w3 w7) := chB HBE6.out X6 HO6.out hc7
      have X7 : X ≤ w7.heap.size := Nat.le_trans X6 hc7.size
      have HO7 : Hid (w7.ownsRow X 5 1 v7 8 ((toI ([64 + (20 + L) / 4, tos] ++ [(20 + L + n) / 256, (20 + L + n) % 256] ++ [id / 256, id % 256] ++ [wd / 256, wd % 256])).map (Value.int .u8))) := ho7
      have HB7 : Hid (H4At w7 O h (.slice la ln lc) (.slice da n c)) := by have h1 := HBE7.out; rw [HX.out] at h1; exact H4At.below HB3.out h1
      have d5 := HB7.out.c5
      have d6 := HB7.out.c6
      rw [HTTL.out] at d5
      rw [HPRO.out] at d6
      have u5 : IntKind.u8.wrap (ttl : Int) = (ttl : Int) := by rw [IntKind.wrap_u8]; omega
      have u6 : IntKind.u8.wrap (pro : Int) = (pro : Int) := by rw [IntKind.wrap_u8]; omega
      clear QA3 hc7 ho7 HBE6 HO6 X6
      go_wp2_with (first | (at_builtin; refine append_split_seg rfl (.tmp 61) (.tmp 68) 26 rfl X 5 i0 (.int .u8 0) 1 Tryd.underlying26 hi hz0 hz1 hz2 rfl v7 8 _ rfl (HO7.out.alloc _) .u8 (some ⟨w7.heap.size, 0, none⟩) 2 2 [(ttl : Int), (pro : Int)] rfl rfl (seg_newz w7 [(ttl : Int), (pro : Int)] _) (by unfold maxLen; omega) (by omega) (by simp; omega) ?_))
      intro v8 w8 ho8 _ hg8
      have HBE8 : Hid (Below X w3 w8) := by
        have h1 : Below X w3 (w7.alloc (.cells #[.int .u8 (ttl : Int), .int .u8 (pro : Int)] 5)) := HBE7.out.alloc X7 _
        exact h1.grown hg8 (by simp; omega) (fun q hq => (HO7.out.lt q hq).1)
      have X8 : X ≤ w8.heap.size := by have := hg8.size; simp at this; omega
      obtain ⟨PA, hPA⟩ : ∃ PA, PA = I4.hA h (I4.serHd h) (I4.serTl h) := ⟨_, rfl⟩
      have HPA : Hid (PA = I4.hA h (I4.serHd h) (I4.serTl h)) := hPA
      have HPL : Hid (PA.length = 10) := by show _ = _; rw [hPA]; rfl
      have HO8 : Hid (w8.ownsRow X 5 1 v8 10 ((toI PA).map (Value.int .u8))) := by
        rw [hPA, HP1.out]
        have e : (toI ([64 + (20 + L) / 4, tos] ++ [(20 + L + n) / 256, (20 + L + n) % 256] ++ [id / 256, id % 256] ++ [wd / 256, wd % 256] ++ [ttl, pro])).map (Value.int .u8) = (toI ([64 + (20 + L) / 4, tos] ++ [(20 + L + n) / 256, (20 + L + n) % 256] ++ [id / 256, id % 256] ++ [wd / 256, wd % 256])).map (Value.int .u8) ++ ([(ttl : Int), (pro : Int)] : List Int).map (Value.int .u8) := by simp [toI]
        rw [e]
        exact ho8
      have HB8 : Hid (H4At w8 O h (.slice la ln lc) (.slice da n c)) := by have h1 := HBE8.out; rw [HX.out] at h1; exact H4At.below HB3.out h1
      have HOP8 : Hid (w8.ownsRow w1.heap.size 5 1 (.slice oa L oc) L ((toI (I4.putO h.os)).map (Value.int .u8))) := by have h1 := HBE8.out; rw [HX.out] at h1; exact owns_below HOO.out h1
      obtain ⟨vb, vbc, rfl⟩ := owns_some HO8.out (by omega)
      obtain ⟨Y, hY⟩ : ∃ Y, Y = w8.heap.size := ⟨_, rfl⟩
      have HY : Hid (Y = w8.heap.size) := hY
      have HT0 : Hid (w8.ownsRow Y 5 1 (.slice none 0 0) 0 ((toI (ipL h.sx 0)).map (Value.int .u8)) ∧ Below Y w8 w8) := ⟨World.ownsRow_nil _ _ _ _, Below.refl _ _⟩
      clear ho8 hg8 HBE7 HO7 HB7 X7 hPA hY d5 d6 u5 u6 HP1
      go_wp2
      go_loopw [10, 11] (fun tl ix wr => ∃ (k : Nat) (v : Value), v = tl ∧ ix = .int .i64 k ∧ k ≤ 4 ∧ Hid (wr.ownsRow Y 5 1 v (k) ((toI (ipL h.sx k)).map (Value.int .u8)) ∧ Below Y w8 wr)) (fun _ ix _ => 4 - (intOf ix).toNat)
      case atStart => exact ⟨0, _, rfl, rfl, by omega, HT0⟩
      case round =>
        obtain ⟨k, vt, rfl, rfl, hk, HT⟩ := hrel
        by_cases hk4 : k < 4
        · have hb0 : Below w8.heap.size w8 wr := by have h1 := HT.out.2; rw [HY.out] at h1; exact h1
          have cc := (H4At.below HB8.out hb0).sxc k hk4
          have k0 : (0 : Int) ≤ (k : Int) := by omega
          have k1 : (k : Int) < 16 := by omega
          have k2 : ((k : Int)).toNat = k := by omega
          have k3 : (k : Int) < 4 := by omega
          obtain ⟨y, hy⟩ : ∃ y, y = h.sx k := ⟨_, rfl⟩
          rw [← hy] at cc
          have HYY : Hid (y = h.sx k) := hy
          have hszr : Y ≤ wr.heap.size := by rw [HY.out]; exact hb0.size
          clear hy hb0
          go_wp2_with (first | (at_builtin; refine append_split_seg rfl (.tmp 74) (.tmp 80) 26 rfl Y 5 i0 (.int .u8 0) 1 Tryd.underlying26 hi hz0 hz1 hz2 rfl vt (k) _ rfl (HT.out.1.alloc _) .u8 (some ⟨wr.heap.size, 0, none⟩) 1 1 [(y : Int)] rfl rfl (seg_newz wr [(y : Int)] _) (by unfold maxLen; omega) (by omega) (by simp; omega) ?_))
          intro v3 wy ho3 _ hg3
          have HT3 : Hid (wy.ownsRow Y 5 1 v3 ((k + 1)) ((toI (ipL h.sx (k + 1))).map (Value.int .u8)) ∧ Below Y w8 wy) := by
            have h1 : Below Y w8 (wr.alloc (.cells #[.int .u8 (y : Int)] 5)) := HT.out.2.alloc hszr _
            refine ⟨?_, h1.grown hg3 (by simp; omega) (fun q hq => (HT.out.1.lt q hq).1)⟩
            have e : (toI (ipL h.sx (k + 1))).map (Value.int .u8) = (toI (ipL h.sx k)).map (Value.int .u8) ++ ([(y : Int)] : List Int).map (Value.int .u8) := by rw [ipL_snoc h.sx k]; simp [toI, HYY.out]
            rw [e]
            exact ho3
          clear ho3 hg3
          go_wp2
          go_roundw
          case rel => exact ⟨k + 1, v3, rfl, by go_num, by omega, HT3⟩
          case measure => simp [intOf]; omega
        · have hni : ¬ ((k : Int) < 4) := by omega
          have e4 : k = 4 := by omega
          have HTE : Hid (wr.ownsRow Y 5 1 vt (4) ((toI (ipL h.sx 4)).map (Value.int .u8)) ∧ Below Y w8 wr) := by have h1 := HT.out; rw [e4] at h1; exact h1
          clear hk4 hk e4 HT
          have HT4 : Hid (wr.ownsRow Y 5 1 vt (4 + 0) ((toI (ipL h.sx 4 ++ ipL h.dx 0)).map (Value.int .u8)) ∧ Below Y w8 wr) := by
            refine ⟨?_, HTE.out.2⟩
            have e : ipL h.sx 4 ++ ipL h.dx 0 = ipL h.sx 4 := by simp [ipL]
            rw [e]
            exact HTE.out.1
          clear HTE
          go_wp2
          go_loopw [10, 12] (fun tl ix wr => ∃ (k : Nat) (v : Value), v = tl ∧ ix = .int .i64 k ∧ k ≤ 4 ∧ Hid (wr.ownsRow Y 5 1 v (4 + k) ((toI (ipL h.sx 4 ++ ipL h.dx k)).map (Value.int .u8)) ∧ Below Y w8 wr)) (fun _ ix _ => 4 - (intOf ix).toNat)
          case atStart => exact ⟨0, _, rfl, rfl, by omega, HT4⟩
          case round =>
            obtain ⟨k, vt, rfl, rfl, hk, HT⟩ := hrel
            by_cases hk4 : k < 4
            · have hb0 : Below w8.heap.size w8 wr := by have h1 := HT.out.2; rw [HY.out] at h1; exact h1
              have cc := (H4At.below HB8.out hb0).dxc k hk4
              have k0 : (0 : Int) ≤ (k : Int) := by omega
              have k1 : (k : Int) < 16 := by omega
              have k2 : ((k : Int)).toNat = k := by omega
              have k3 : (k : Int) < 4 := by omega
              obtain ⟨y, hy⟩ : ∃ y, y = h.dx k := ⟨_, rfl⟩
              rw [← hy] at cc
              have HYY : Hid (y = h.dx k) := hy
              have hszr : Y ≤ wr.heap.size := by rw [HY.out]; exact hb0.size
              clear hy hb0
              go_wp2_with (first | (at_builtin; refine append_split_seg rfl (.tmp 86) (.tmp 92) 26 rfl Y 5 i0 (.int .u8 0) 1 Tryd.underlying26 hi hz0 hz1 hz2 rfl vt (4 + k) _ rfl (HT.out.1.alloc _) .u8 (some ⟨wr.heap.size, 0, none⟩) 1 1 [(y : Int)] rfl rfl (seg_newz wr [(y : Int)] _) (by unfold maxLen; omega) (by omega) (by simp; omega) ?_))
              intro v3 wy ho3 _ hg3
              have HT3 : Hid (wy.ownsRow Y 5 1 v3 (4 + (k + 1)) ((toI (ipL h.sx 4 ++ ipL h.dx (k + 1))).map (Value.int .u8)) ∧ Below Y w8 wy) := by
                have h1 : Below Y w8 (wr.alloc (.cells #[.int .u8 (y : Int)] 5)) := HT.out.2.alloc hszr _
                refine ⟨?_, h1.grown hg3 (by simp; omega) (fun q hq => (HT.out.1.lt q hq).1)⟩
                have e : (toI (ipL h.sx 4 ++ ipL h.dx (k + 1))).map (Value.int .u8) = (toI (ipL h.sx 4 ++ ipL h.dx k)).map (Value.int .u8) ++ ([(y : Int)] : List Int).map (Value.int .u8) := by rw [ipL_snoc h.dx k]; simp [toI, HYY.out]
                rw [e, show 4 + (k + 1) = 4 + k + 1 by omega]
                exact ho3
              clear ho3 hg3
              go_wp2
              go_roundw
              case rel => exact ⟨k + 1, v3, rfl, by go_num, by omega, HT3⟩
              case measure => simp [intOf]; omega
            · have hni : ¬ ((k : Int) < 4) := by omega
              have e4 : k = 4 := by omega
              have HTE : Hid (wr.ownsRow Y 5 1 vt (4 + 4) ((toI (ipL h.sx 4 ++ ipL h.dx 4)).map (Value.int .u8)) ∧ Below Y w8 wr) := by have h1 := HT.out; rw [e4] at h1; exact h1
              clear hk4 hk e4 HT
              obtain ⟨ta, tc, rfl⟩ := owns_some HTE.out.1 (by omega)
              have hb0 : Below w8.heap.size w8 wr := by have h1 := HTE.out.2; rw [HY.out] at h1; exact h1
              have hszr : Y ≤ wr.heap.size := by rw [HY.out]; exact hb0.size
              have HOPr : Hid (wr.ownsRow w1.heap.size 5 1 (.slice oa L oc) L ((toI (I4.putO h.os)).map (Value.int .u8))) := owns_below HOP8.out hb0
              have HTR : Hid (wr.ownsRow Y 5 1 (.slice (some ⟨ta, 0, none⟩) (4 + 4) tc) (4 + 4) ((toI (I4.hZ h)).map (Value.int .u8))) := HTE.out.1
              have HTB : Hid (Below Y w8 wr) := HTE.out.2
              have hLp : (I4.putO h.os).length = L := HLL.out.symm
              clear HTE hb0
              go_upto_region 25 with fail
              go_wp2_with (first | (at_builtin; refine append_split_seg rfl (.tmp 94) (.tmp 95) 26 rfl Y 5 i0 (.int .u8 0) 1 Tryd.underlying26 hi hz0 hz1 hz2 rfl (.slice (some ⟨ta, 0, none⟩) (4 + 4) tc) (4 + 4) _ rfl HTR.out .u8 oa L oc (toI (I4.putO h.os)) rfl (by rw [toI_len]; exact hLp) (owns_at HOPr.out).1 (by unfold maxLen; omega) (by omega) hszr ?_))
              intro v9 w9 ho9 _ hg9
              have HTL9 : Hid (w9.ownsRow Y 5 1 v9 (4 + 4 + L) ((toI (I4.hZ h ++ I4.putO h.os)).map (Value.int .u8))) := by
                have e : (toI (I4.hZ h ++ I4.putO h.os)).map (Value.int .u8) = (toI (I4.hZ h)).map (Value.int .u8) ++ (toI (I4.putO h.os)).map (Value.int .u8) := by simp [toI]
                rw [e]; exact ho9
              have HB9 : Hid (Below w8.heap.size w8 w9) := by
                have h1 : Below Y w8 w9 := HTB.out.grown hg9 hszr (fun q hq => (HTR.out.lt q hq).1)
                rw [HY.out] at h1; exact h1
              obtain ⟨tb, tbc, rfl⟩ := owns_some HTL9.out (by omega)
              have HV9 : Hid (w9.ownsRow X 5 1 (.slice (some ⟨vb, 0, none⟩) 10 vbc) 10 ((toI PA).map (Value.int .u8))) := owns_below HO8.out HB9.out
              have HVB : Hid (vb < Y) := by rw [HY.out]; exact (HO8.out.lt vb rfl).2
              have HTBY : Hid (Y ≤ tb) := (HTL9.out.lt tb rfl).1
              obtain ⟨TL, hTL⟩ : ∃ TL, TL = I4.hZ h ++ I4.putO h.os := ⟨_, rfl⟩
              rw [← hTL] at HTL9
              have HTLE : Hid (TL = I4.hZ h ++ I4.putO h.os) := hTL
              have HTLL : Hid (TL.length = 4 + 4 + L) := by show _ = _; rw [hTL, List.length_append, hLp]; rfl
              have HS256 : Hid (∀ x ∈ I4.ser h, x < 256) := ser_256 h HM.out HK.out.sx HK.out.dx (by rw [HK.out.hos]; exact opts_256 HK.out.opts) HK.out.d256
              have HSP : Hid (I4.ser h = PA ++ ([I4.serSum h / 256, I4.serSum h % 256] ++ (TL ++ h.data))) := by
                show _ = _
                rw [hTL, HPA.out]
                exact I4.ser_split h
              have HP256 : Hid (∀ x ∈ PA, x < 256) := fun x hx => HS256.out x (by rw [HSP.out]; exact List.mem_append_left _ hx)
              have HT256 : Hid (∀ x ∈ TL, x < 256) := fun x hx => HS256.out x (by rw [HSP.out]; exact List.mem_append_right _ (List.mem_append_right _ (List.mem_append_left _ hx)))
              have hcp1 := (owns_at HV9.out).2
              have hcp2 := (owns_at HTL9.out).2
              have QK : Hid _ := rcheck_two w9 w9.heap.size (some ⟨vb, 0, none⟩) (some ⟨tb, 0, none⟩) 10 (4 + 4 + L) vbc tbc PA TL rfl HPL.out HTLL.out ⟨(owns_at HV9.out).1, HP256.out, by show PA.length ≤ vbc; rw [HPL.out]; exact hcp1.1, hcp1.2⟩ ⟨(owns_at HTL9.out).1, HT256.out, by show TL.length ≤ tbc; rw [HTLL.out]; exact hcp2.1, hcp2.2⟩ (by omega)
              have HSUM : Hid (65535 - S.fold (S.wv false (PA ++ TL)) = I4.serSum h) := by show _ = _; rw [I4.serSum_eq, HPA.out, HTLE.out]
              rw [HSUM.out] at QK
              obtain ⟨sm, hsm⟩ : ∃ sm, sm = I4.serSum h := ⟨_, rfl⟩
              have lsm : sm ≤ 65535 := by rw [hsm]; unfold I4.serSum; omega
              rw [← hsm] at QK HSP
              clear ho9 hg9 HTR HTB HOPr hLp hTL HSUM hsm hszr
              go_wp2_with fail
              refine Calls.mono QK.out ?_
              rintro e w10 ⟨rfl, hb10⟩
              have HB10 : Hid (Below w8.heap.size w8 w10) := bthen HB9.out hb10
              have HV10 : Hid (w10.ownsRow X 5 1 (.slice (some ⟨vb, 0, none⟩) 10 vbc) 10 ((toI PA).map (Value.int .u8))) := owns_below HV9.out hb10
              have HTL10 : Hid (w10.ownsRow Y 5 1 (.slice (some ⟨tb, 0, none⟩) (4 + 4 + L) tbc) (4 + 4 + L) ((toI TL).map (Value.int .u8))) := owns_below HTL9.out hb10
              have X10 : X ≤ w10.heap.size := Nat.le_trans X8 HB10.out.size
              have HBX10 : Hid (Below X w3 w10) := HBE8.out.trans (HB10.out.mono X8)
              have QA5 : Hid _ := add_any X (.slice (some ⟨vb, 0, none⟩) 10 vbc) 10 sm PA w10 HPL.out HV10.out (by omega) lsm X10
              clear QK hb10 HV9 HTL9 HB9
              go_wp2_with fail
              refine Calls.mono QA5.out ?_
              rintro e w11 ⟨v11, rfl, ho11, hc11, _⟩
              have HBX11 : Hid (Below X w3 w11) := chB HBX10.out X10 HV10.out hc11
              have X11 : X ≤ w11.heap.size := Nat.le_trans X10 hc11.size
              have HTL11 : Hid (w11.ownsRow Y 5 1 (.slice (some ⟨tb, 0, none⟩) (4 + 4 + L) tbc) (4 + 4 + L) ((toI TL).map (Value.int .u8))) := hc11.owns HTL10.out (fun q hq e => by
                have h1 : tb = q := by simpa [Value.ownBlock] using hq
                have h2 : vb = q := by simpa [Value.ownBlock] using e
                have := HVB.out
                have := HTBY.out
                omega)
              have HV11 : Hid (w11.ownsRow X 5 1 v11 (10 + 2) ((toI (PA ++ [sm / 256, sm % 256])).map (Value.int .u8))) := ho11
              clear QA5 hc11 ho11 HV10 HTL10 HB10 X10 HBX10
              go_wp2_with (first | (at_builtin; refine append_split_seg rfl (.tmp 104) (.tmp 105) 26 rfl X 5 i0 (.int .u8 0) 1 Tryd.underlying26 hi hz0 hz1 hz2 rfl v11 (10 + 2) _ rfl HV11.out .u8 (some ⟨tb, 0, none⟩) (4 + 4 + L) tbc (toI TL) rfl (by rw [toI_len]; exact HTLL.out) (owns_at HTL11.out).1 (by unfold maxLen; omega) (by omega) X11 ?_))
              intro v12 w12 ho12 _ hg12
              have HBX12 : Hid (Below X w3 w12) := HBX11.out.grown hg12 X11 (fun q hq => (HV11.out.lt q hq).1)
              have X12 : X ≤ w12.heap.size := Nat.le_trans X11 hg12.size
              have hb12 : Below w3.heap.size w3 w12 := by have h1 := HBX12.out; rw [HX.out] at h1; exact h1
              have d42 := (H4At.below HB3.out hb12).c42
              have hsgd : Seg .u8 w12 da (toI h.data) := (HK.out.old (bthen bel3 hb12)).seg
              have HV12 : Hid (w12.ownsRow X 5 1 v12 (10 + 2 + (4 + 4 + L)) ((toI (PA ++ [sm / 256, sm % 256])).map (Value.int .u8) ++ (toI TL).map (Value.int .u8))) := ho12
              have hdl : h.data.length = n := HK.out.dl
              clear hg12 ho12 HV11 HTL11 HBX11 X11 hb12
              go_wp2_with (first | (at_builtin; refine append_split_seg rfl (.tmp 107) (.tmp 109) 26 rfl X 5 i0 (.int .u8 0) 1 Tryd.underlying26 hi hz0 hz1 hz2 rfl v12 _ _ rfl HV12.out .u8 da n c (toI h.data) rfl (by rw [toI_len]; exact hdl) hsgd (by unfold maxLen; omega) (by omega) X12 ?_))
              intro v13 w13 ho13 _ hg13
              have HF : Hid (Below w.heap.size w w13 ∧ RSer w h v13 w13) := by
                have h1 : Below X w3 w13 := HBX12.out.grown hg13 X12 (fun q hq => (HV12.out.lt q hq).1)
                have h2 : Below w3.heap.size w3 w13 := by rw [HX.out] at h1; exact h1
                have hlen : (I4.ser h).length = 10 + 2 + (4 + 4 + L) + n := by rw [HSP.out]; simp only [List.length_append, HPL.out, HTLL.out, hdl, List.length_cons, List.length_nil]; omega
                have hcs : (toI (I4.ser h)).map (Value.int .u8) = (toI (PA ++ [sm / 256, sm % 256])).map (Value.int .u8) ++ (toI TL).map (Value.int .u8) ++ (toI h.data).map (Value.int .u8) := by rw [HSP.out]; simp [toI]
                have ho : w13.ownsRow X 5 1 v13 (I4.ser h).length ((toI (I4.ser h)).map (Value.int .u8)) := by
                  rw [hlen, hcs]
                  simpa using ho13
                obtain ⟨va, vc, e⟩ := owns_shape ho
                refine ⟨bthen bel3 h2, .inl ⟨HR.out.symm, va, vc, e, owns_mono ho ?_⟩⟩
                rw [HX.out]
                exact bel3.size
              clear ho13 hg13
              go_wp2
              go_ret2
              exact ⟨_, rfl, HF.out.1, HF.out.2⟩
    | true =>
      have hwd0 : (wd : Int) = 0 + 8192 + (off : Int) / 8 := by have h1 := HWD.out; rw [hdf, hmf] at h1; simpa using h1
      rw [hdf] at d2
      rw [hmf] at d3
      have HWD2 : Hid ((off : Int) / 8 + 8192 = (wd : Int)) := by show _ = _; omega
      have wx2 : IntKind.i64.wrap ((off : Int) / 8 + 8192) = (off : Int) / 8 + 8192 := by rw [IntKind.wrap_i64]; omega
      clear hwd0 HWD hdf hmf
      go_upto_region 11 with fail
      rw [HWD2.out]
      clear HWD2 d2 d3 d4
      have HA1 : Hid (64 + (20 + (L : Int)) / 4 = ((64 + (20 + L) / 4 : Nat) : Int)) := by show _ = _; omega
      have a2 : IntKind.i64.wrap (64 + (20 + (L : Int)) / 4) = 64 + (20 + (L : Int)) / 4 := by rw [IntKind.wrap_i64]; omega
      have a3 : IntKind.u8.wrap (64 + (20 + (L : Int)) / 4) = 64 + (20 + (L : Int)) / 4 := by rw [IntKind.wrap_u8]; omega
      have a4 : IntKind.u8.wrap (tos : Int) = (tos : Int) := by rw [IntKind.wrap_u8]; omega
      go_upto_region 12 with fail
      obtain ⟨X, hX⟩ : ∃ X, X = w3.heap.size := ⟨_, rfl⟩
      obtain ⟨w4, hw4⟩ : ∃ w4, w4 = w3.alloc (.cells #[.int .u8 (64 + (20 + (L : Int)) / 4), .int .u8 (tos : Int)] 5) := ⟨_, rfl⟩
      have B4 : Below X w3 w4 := by rw [hw4, hX]; exact (Below.refl _ _).alloc (Nat.le_refl _) _
      have O4 : w4.ownsRow X 5 1 (.slice (some ⟨X, 0, none⟩) 2 2) 2 ((toI [64 + (20 + L) / 4, tos]).map (Value.int .u8)) := by
        have h1 := World.ownsRow_lit (base := X) (e := 5) (size := 1) w3 #[.int .u8 (64 + (20 + (L : Int)) / 4), .int .u8 (tos : Int)] 2 (by omega) (by unfold maxLen; omega) rfl
        rw [← hw4, ← hX, HA1.out] at h1
        exact h1
      have X4 : X ≤ w4.heap.size := by rw [hX]; rw [hX] at B4; exact B4.size
      rw [← hw4, ← hX]
      have HX : Hid (X = w3.heap.size) := hX
      have HB4 : Hid (H4At w4 O h (.slice la ln lc) (.slice da n c)) := by rw [hX] at B4; exact H4At.below HB3.out B4
      have HBE4 : Hid (Below X w3 w4) := B4
      have HO4 : Hid _ := O4
      have d42 := HB4.out.c42
      have b1 : IntKind.i64.wrap (20 + (L : Int) + (n : Int)) = ((20 + L + n : Nat) : Int) := by rw [IntKind.wrap_i64]; omega
      have QA : Hid _ := add_any X (.slice (some ⟨X, 0, none⟩) 2 2) 2 (20 + L + n) [64 + (20 + L) / 4, tos] w4 rfl O4 (by omega) HTOT.out X4
      clear hX hw4 B4 O4 d0 HA1 a2 a3 a4 wa
      go_wp2_with fail
      refine Calls.mono QA.out ?_
      rintro e w5 ⟨v5, rfl, ho5, hc5, _⟩
      have HBE5 : Hid (Below X w3 w5) := chB HBE4.out X4 HO4.out hc5
      have X5 : X ≤ w5.heap.size := Nat.le_trans X4 hc5.size
      have HO5 : Hid _ := ho5
      have HB5 : Hid (H4At w5 O h (.slice la ln lc) (.slice da n c)) := by have h1 := HBE5.out; rw [HX.out] at h1; exact H4At.below HB3.out h1
      have d1 := HB5.out.c1
      rw [HID.out] at d1
      have QA2 : Hid _ := add_any X v5 4 id _ w5 rfl ho5 (by omega) lid X5
      clear QA hc5 ho5 HBE4 HO4 HB4 X4 d42 b1
      go_wp2_with fail
      refine Calls.mono QA2.out ?_
      rintro e w6 ⟨v6, rfl, ho6, hc6, _⟩
      have HBE6 : Hid (Below X w3 w6) := chB HBE5.out X5 HO5.out hc6
      have X6 : X ≤ w6.heap.size := Nat.le_trans X5 hc6.size
      have HO6 : Hid _ := ho6
      have QA3 : Hid _ := add_any X v6 6 wd _ w6 rfl ho6 (by omega) (by omega) X6
      clear QA2 hc6 ho6 HBE5 HO5 HB5 X5 d1
      go_wp2_with fail
      refine Calls.mono QA3.out ?_
      rintro e w7 ⟨v7, rfl, ho7, hc7, _⟩
      have HBE7 : Hid (Below X w3 w7) := chB HBE6.out X6 HO6.out hc7
      have X7 : X ≤ w7.heap.size := Nat.le_trans X6 hc7.size
      have HO7 : Hid (w7.ownsRow X 5 1 v7 8 ((toI ([64 + (20 + L) / 4, tos] ++ [(20 + L + n) / 256, (20 + L + n) % 256] ++ [id / 256, id % 256] ++ [wd / 256, wd % 256])).map (Value.int .u8))) := ho7
      have HB7 : Hid (H4At w7 O h (.slice la ln lc) (.slice da n c)) := by have h1 := HBE7.out; rw [HX.out] at h1; exact H4At.below HB3.out h1
      have d5 := HB7.out.c5
      have d6 := HB7.out.c6
      rw [HTTL.out] at d5
      rw [HPRO.out] at d6
      have u5 : IntKind.u8.wrap (ttl : Int) = (ttl : Int) := by rw [IntKind.wrap_u8]; omega
      have u6 : IntKind.u8.wrap (pro : Int) = (pro : Int) := by rw [IntKind.wrap_u8]; omega
      clear QA3 hc7 ho7 HBE6 HO6 X6
      go_wp2_with (first | (at_builtin; refine append_split_seg rfl (.tmp 61) (.tmp 68) 26 rfl X 5 i0 (.int .u8 0) 1 Tryd.underlying26 hi hz0 hz1 hz2 rfl v7 8 _ rfl (HO7.out.alloc _) .u8 (some ⟨w7.heap.size, 0, none⟩) 2 2 [(ttl : Int), (pro : Int)] rfl rfl (seg_newz w7 [(ttl : Int), (pro : Int)] _) (by unfold maxLen; omega) (by omega) (by simp; omega) ?_))
      intro v8 w8 ho8 _ hg8
      have HBE8 : Hid (Below X w3 w8) := by
        have h1 : Below X w3 (w7.alloc (.cells #[.int .u8 (ttl : Int), .int .u8 (pro : Int)] 5)) := HBE7.out.alloc X7 _
        exact h1.grown hg8 (by simp; omega) (fun q hq => (HO7.out.lt q hq).1)
      have X8 : X ≤ w8.heap.size := by have := hg8.size; simp at this; omega
      obtain ⟨PA, hPA⟩ : ∃ PA, PA = I4.hA h (I4.serHd h) (I4.serTl h) := ⟨_, rfl⟩
      have HPA : Hid (PA = I4.hA h (I4.serHd h) (I4.serTl h)) := hPA
      have HPL : Hid (PA.length = 10) := by show _ = _; rw [hPA]; rfl
      have HO8 : Hid (w8.ownsRow X 5 1 v8 10 ((toI PA).map (Value.int .u8))) := by
        rw [hPA, HP1.out]
        have e : (toI ([64 + (20 + L) / 4, tos] ++ [(20 + L + n) / 256, (20 + L + n) % 256] ++ [id / 256, id % 256] ++ [wd / 256, wd % 256] ++ [ttl, pro])).map (Value.int .u8) = (toI ([64 + (20 + L) / 4, tos] ++ [(20 + L + n) / 256, (20 + L + n) % 256] ++ [id / 256, id % 256] ++ [wd / 256, wd % 256])).map (Value.int .u8) ++ ([(ttl : Int), (pro : Int)] : List Int).map (Value.int .u8) := by simp [toI]
        rw [e]
        exact ho8
      have HB8 : Hid (H4At w8 O h (.slice la ln lc) (.slice da n c)) := by have h1 := HBE8.out; rw [HX.out] at h1; exact H4At.below HB3.out h1
      have HOP8 : Hid (w8.ownsRow w1.heap.size 5 1 (.slice oa L oc) L ((toI (I4.putO h.os)).map (Value.int .u8))) := by have h1 := HBE8.out; rw [HX.out] at h1; exact owns_below HOO.out h1
      obtain ⟨vb, vbc, rfl⟩ := owns_some HO8.out (by omega)
      obtain ⟨Y, hY⟩ : ∃ Y, Y = w8.heap.size := ⟨_, rfl⟩
      have HY : Hid (Y = w8.heap.size) := hY
      have HT0 : Hid (w8.ownsRow Y 5 1 (.slice none 0 0) 0 ((toI (ipL h.sx 0)).map (Value.int .u8)) ∧ Below Y w8 w8) := ⟨World.ownsRow_nil _ _ _ _, Below.refl _ _⟩
      clear ho8 hg8 HBE7 HO7 HB7 X7 hPA hY d5 d6 u5 u6 HP1
      go_wp2
      go_loopw [10, 11] (fun tl ix wr => ∃ (k : Nat) (v : Value), v = tl ∧ ix = .int .i64 k ∧ k ≤ 4 ∧ Hid (wr.ownsRow Y 5 1 v (k) ((toI (ipL h.sx k)).map (Value.int .u8)) ∧ Below Y w8 wr)) (fun _ ix _ => 4 - (intOf ix).toNat)
      case atStart => exact ⟨0, _, rfl, rfl, by omega, HT0⟩
      case round =>
        obtain ⟨k, vt, rfl, rfl, hk, HT⟩ := hrel
        by_cases hk4 : k < 4
        · have hb0 : Below w8.heap.size w8 wr := by have h1 := HT.out.2; rw [HY.out] at h1; exact h1
          have cc := (H4At.below HB8.out hb0).sxc k hk4
          have k0 : (0 : Int) ≤ (k : Int) := by omega
          have k1 : (k : Int) < 16 := by omega
          have k2 : ((k : Int)).toNat = k := by omega
          have k3 : (k : Int) < 4 := by omega
          obtain ⟨y, hy⟩ : ∃ y, y = h.sx k := ⟨_, rfl⟩
          rw [← hy] at cc
          have HYY : Hid (y = h.sx k) := hy
          have hszr : Y ≤ wr.heap.size := by rw [HY.out]; exact hb0.size
          clear hy hb0
          go_wp2_with (first | (at_builtin; refine append_split_seg rfl (.tmp 74) (.tmp 80) 26 rfl Y 5 i0 (.int .u8 0) 1 Tryd.underlying26 hi hz0 hz1 hz2 rfl vt (k) _ rfl (HT.out.1.alloc _) .u8 (some ⟨wr.heap.size, 0, none⟩) 1 1 [(y : Int)] rfl rfl (seg_newz wr [(y : Int)] _) (by unfold maxLen; omega) (by omega) (by simp; omega) ?_))
          intro v3 wy ho3 _ hg3
          have HT3 : Hid (wy.ownsRow Y 5 1 v3 ((k + 1)) ((toI (ipL h.sx (k + 1))).map (Value.int .u8)) ∧ Below Y w8 wy) := by
            have h1 : Below Y w8 (wr.alloc (.cells #[.int .u8 (y : Int)] 5)) := HT.out.2.alloc hszr _
            refine ⟨?_, h1.grown hg3 (by simp; omega) (fun q hq => (HT.out.1.lt q hq).1)⟩
            have e : (toI (ipL h.sx (k + 1))).map (Value.int .u8) = (toI (ipL h.sx k)).map (Value.int .u8) ++ ([(y : Int)] : List Int).map (Value.int .u8) := by rw [ipL_snoc h.sx k]; simp [toI, HYY.out]
            rw [e]
            exact ho3
          clear ho3 hg3
          go_wp2
          go_roundw
          case rel => exact ⟨k + 1, v3, rfl, by go_num, by omega, HT3⟩
          case measure => simp [intOf]; omega
        · have hni : ¬ ((k : Int) < 4) := by omega
          have e4 : k = 4 := by omega
          have HTE : Hid (wr.ownsRow Y 5 1 vt (4) ((toI (ipL h.sx 4)).map (Value.int .u8)) ∧ Below Y w8 wr) := by have h1 := HT.out; rw [e4] at h1; exact h1
          clear hk4 hk e4 HT
          have HT4 : Hid (wr.ownsRow Y 5 1 vt (4 + 0) ((toI (ipL h.sx 4 ++ ipL h.dx 0)).map (Value.int .u8)) ∧ Below Y w8 wr) := by
            refine ⟨?_, HTE.out.2⟩
            have e : ipL h.sx 4 ++ ipL h.dx 0 = ipL h.sx 4 := by simp [ipL]
            rw [e]
            exact HTE.out.1
          clear HTE
          go_wp2
          go_loopw [10, 12] (fun tl ix wr => ∃ (k : Nat) (v : Value), v = tl ∧ ix = .int .i64 k ∧ k ≤ 4 ∧ Hid (wr.ownsRow Y 5 1 v (4 + k) ((toI (ipL h.sx 4 ++ ipL h.dx k)).map (Value.int .u8)) ∧ Below Y w8 wr)) (fun _ ix _ => 4 - (intOf ix).toNat)
          case atStart => exact ⟨0, _, rfl, rfl, by omega, HT4⟩
          case round =>
            obtain ⟨k, vt, rfl, rfl, hk, HT⟩ := hrel
            by_cases hk4 : k < 4
            · have hb0 : Below w8.heap.size w8 wr := by have h1 := HT.out.2; rw [HY.out] at h1; exact h1
              have cc := (H4At.below HB8.out hb0).dxc k hk4
              have k0 : (0 : Int) ≤ (k : Int) := by omega
              have k1 : (k : Int) < 16 := by omega
              have k2 : ((k : Int)).toNat = k := by omega
              have k3 : (k : Int) < 4 := by omega
              obtain ⟨y, hy⟩ : ∃ y, y = h.dx k := ⟨_, rfl⟩
              rw [← hy] at cc
              have HYY : Hid (y = h.dx k) := hy
              have hszr : Y ≤ wr.heap.size := by rw [HY.out]; exact hb0.size
              clear hy hb0
              go_wp2_with (first | (at_builtin; refine append_split_seg rfl (.tmp 86) (.tmp 92) 26 rfl Y 5 i0 (.int .u8 0) 1 Tryd.underlying26 hi hz0 hz1 hz2 rfl vt (4 + k) _ rfl (HT.out.1.alloc _) .u8 (some ⟨wr.heap.size, 0, none⟩) 1 1 [(y : Int)] rfl rfl (seg_newz wr [(y : Int)] _) (by unfold maxLen; omega) (by omega) (by simp; omega) ?_))
              intro v3 wy ho3 _ hg3
              have HT3 : Hid (wy.ownsRow Y 5 1 v3 (4 + (k + 1)) ((toI (ipL h.sx 4 ++ ipL h.dx (k + 1))).map (Value.int .u8)) ∧ Below Y w8 wy) := by
                have h1 : Below Y w8 (wr.alloc (.cells #[.int .u8 (y : Int)] 5)) := HT.out.2.alloc hszr _
                refine ⟨?_, h1.grown hg3 (by simp; omega) (fun q hq => (HT.out.1.lt q hq).1)⟩
                have e : (toI (ipL h.sx 4 ++ ipL h.dx (k + 1))).map (Value.int .u8) = (toI (ipL h.sx 4 ++ ipL h.dx k)).map (Value.int .u8) ++ ([(y : Int)] : List Int).map (Value.int .u8) := by rw [ipL_snoc h.dx k]; simp [toI, HYY.out]
                rw [e, show 4 + (k + 1) = 4 + k + 1 by omega]
                exact ho3
              clear ho3 hg3
              go_wp2
              go_roundw
              case rel => exact ⟨k + 1, v3, rfl, by go_num, by omega, HT3⟩
              case measure => simp [intOf]; omega
            · have hni : ¬ ((k : Int) < 4) := by omega
              have e4 : k = 4 := by omega
              have HTE : Hid (wr.ownsRow Y 5 1 vt (4 + 4) ((toI (ipL h.sx 4 ++ ipL h.dx 4)).map (Value.int .u8)) ∧ Below Y w8 wr) := by have h1 := HT.out; rw [e4] at h1; exact h1
              clear hk4 hk e4 HT
              obtain ⟨ta, tc, rfl⟩ := owns_some HTE.out.1 (by omega)
              have hb0 : Below w8.heap.size w8 wr := by have h1 := HTE.out.2; rw [HY.out] at h1; exact h1
              have hszr : Y ≤ wr.heap.size := by rw [HY.out]; exact hb0.size
              have HOPr : Hid (wr.ownsRow w1.heap.size 5 1 (.slice oa L oc) L ((toI (I4.putO h.os)).map (Value.int .u8))) := owns_below HOP8.out hb0
              have HTR : Hid (wr.ownsRow Y 5 1 (.slice (some ⟨ta, 0, none⟩) (4 + 4) tc) (4 + 4) ((toI (I4.hZ h)).map (Value.int .u8))) := HTE.out.1
              have HTB : Hid (Below Y w8 wr) := HTE.out.2
              have hLp : (I4.putO h.os).length = L := HLL.out.symm
              clear HTE hb0
              go_upto_region 25 with fail
              go_wp2_with (first | (at_builtin; refine append_split_seg rfl (.tmp 94) (.tmp 95) 26 rfl Y 5 i0 (.int .u8 0) 1 Tryd.underlying26 hi hz0 hz1 hz2 rfl (.slice (some ⟨ta, 0, none⟩) (4 + 4) tc) (4 + 4) _ rfl HTR.out .u8 oa L oc (toI (I4.putO h.os)) rfl (by rw [toI_len]; exact hLp) (owns_at HOPr.out).1 (by unfold maxLen; omega) (by omega) hszr ?_))
              intro v9 w9 ho9 _ hg9
              have HTL9 : Hid (w9.ownsRow Y 5 1 v9 (4 + 4 + L) ((toI (I4.hZ h ++ I4.putO h.os)).map (Value.int .u8))) := by
                have e : (toI (I4.hZ h ++ I4.putO h.os)).map (Value.int .u8) = (toI (I4.hZ h)).map (Value.int .u8) ++ (toI (I4.putO h.os)).map (Value.int .u8) := by simp [toI]
                rw [e]; exact ho9
              have HB9 : Hid (Below w8.heap.size w8 w9) := by
                have h1 : Below Y w8 w9 := HTB.out.grown hg9 hszr (fun q hq => (HTR.out.lt q hq).1)
                rw [HY.out] at h1; exact h1
              obtain ⟨tb, tbc, rfl⟩ := owns_some HTL9.out (by omega)
              have HV9 : Hid (w9.ownsRow X 5 1 (.slice (some ⟨vb, 0, none⟩) 10 vbc) 10 ((toI PA).map (Value.int .u8))) := owns_below HO8.out HB9.out
              have HVB : Hid (vb < Y) := by rw [HY.out]; exact (HO8.out.lt vb rfl).2
              have HTBY : Hid (Y ≤ tb) := (HTL9.out.lt tb rfl).1
              obtain ⟨TL, hTL⟩ : ∃ TL, TL = I4.hZ h ++ I4.putO h.os := ⟨_, rfl⟩
              rw [← hTL] at HTL9
              have HTLE : Hid (TL = I4.hZ h ++ I4.putO h.os) := hTL
              have HTLL : Hid (TL.length = 4 + 4 + L) := by show _ = _; rw [hTL, List.length_append, hLp]; rfl
              have HS256 : Hid (∀ x ∈ I4.ser h, x < 256) := ser_256 h HM.out HK.out.sx HK.out.dx (by rw [HK.out.hos]; exact opts_256 HK.out.opts) HK.out.d256
              have HSP : Hid (I4.ser h = PA ++ ([I4.serSum h / 256, I4.serSum h % 256] ++ (TL ++ h.data))) := by
                show _ = _
                rw [hTL, HPA.out]
                exact I4.ser_split h
              have HP256 : Hid (∀ x ∈ PA, x < 256) := fun x hx => HS256.out x (by rw [HSP.out]; exact List.mem_append_left _ hx)
              have HT256 : Hid (∀ x ∈ TL, x < 256) := fun x hx => HS256.out x (by rw [HSP.out]; exact List.mem_append_right _ (List.mem_append_right _ (List.mem_append_left _ hx)))
              have hcp1 := (owns_at HV9.out).2
              have hcp2 := (owns_at HTL9.out).2
              have QK : Hid _ := rcheck_two w9 w9.heap.size (some ⟨vb, 0, none⟩) (some ⟨tb, 0, none⟩) 10 (4 + 4 + L) vbc tbc PA TL rfl HPL.out HTLL.out ⟨(owns_at HV9.out).1, HP256.out, by show PA.length ≤ vbc; rw [HPL.out]; exact hcp1.1, hcp1.2⟩ ⟨(owns_at HTL9.out).1, HT256.out, by show TL.length ≤ tbc; rw [HTLL.out]; exact hcp2.1, hcp2.2⟩ (by omega)
              have HSUM : Hid (65535 - S.fold (S.wv false (PA ++ TL)) = I4.serSum h) := by show _ = _; rw [I4.serSum_eq, HPA.out, HTLE.out]
              rw [HSUM.out] at QK
              obtain ⟨sm, hsm⟩ : ∃ sm, sm = I4.serSum h := ⟨_, rfl⟩
              have lsm : sm ≤ 65535 := by rw [hsm]; unfold I4.serSum; omega
              rw [← hsm] at QK HSP
              clear ho9 hg9 HTR HTB HOPr hLp hTL HSUM hsm hszr
              go_wp2_with fail
              refine Calls.mono QK.out ?_
              rintro e w10 ⟨rfl, hb10⟩
              have HB10 : Hid (Below w8.heap.size w8 w10) := bthen HB9.out hb10
              have HV10 : Hid (w10.ownsRow X 5 1 (.slice (some ⟨vb, 0, none⟩) 10 vbc) 10 ((toI PA).map (Value.int .u8))) := owns_below HV9.out hb10
              have HTL10 : Hid (w10.ownsRow Y 5 1 (.slice (some ⟨tb, 0, none⟩) (4 + 4 + L) tbc) (4 + 4 + L) ((toI TL).map (Value.int .u8))) := owns_below HTL9.out hb10
              have X10 : X ≤ w10.heap.size := Nat.le_trans X8 HB10.out.size
              have HBX10 : Hid (Below X w3 w10) := HBE8.out.trans (HB10.out.mono X8)
              have QA5 : Hid _ := add_any X (.slice (some ⟨vb, 0, none⟩) 10 vbc) 10 sm PA w10 HPL.out HV10.out (by omega) lsm X10
              clear QK hb10 HV9 HTL9 HB9
              go_wp2_with fail
              refine Calls.mono QA5.out ?_
              rintro e w11 ⟨v11, rfl, ho11, hc11, _⟩
              have HBX11 : Hid (Below X w3 w11) := chB HBX10.out X10 HV10.out hc11
              have X11 : X ≤ w11.heap.size := Nat.le_trans X10 hc11.size
              have HTL11 : Hid (w11.ownsRow Y 5 1 (.slice (some ⟨tb, 0, none⟩) (4 + 4 + L) tbc) (4 + 4 + L) ((toI TL).map (Value.int .u8))) := hc11.owns HTL10.out (fun q hq e => by
                have h1 : tb = q := by simpa [Value.ownBlock] using hq
                have h2 : vb = q := by simpa [Value.ownBlock] using e
                have := HVB.out
                have := HTBY.out
                omega)
              have HV11 : Hid (w11.ownsRow X 5 1 v11 (10 + 2) ((toI (PA ++ [sm / 256, sm % 256])).map (Value.int .u8))) := ho11
              clear QA5 hc11 ho11 HV10 HTL10 HB10 X10 HBX10
              go_wp2_with (first | (at_builtin; refine append_split_seg rfl (.tmp 104) (.tmp 105) 26 rfl X 5 i0 (.int .u8 0) 1 Tryd.underlying26 hi hz0 hz1 hz2 rfl v11 (10 + 2) _ rfl HV11.out .u8 (some ⟨tb, 0, none⟩) (4 + 4 + L) tbc (toI TL) rfl (by rw [toI_len]; exact HTLL.out) (owns_at HTL11.out).1 (by unfold maxLen; omega) (by omega) X11 ?_))
              intro v12 w12 ho12 _ hg12
              have HBX12 : Hid (Below X w3 w12) := HBX11.out.grown hg12 X11 (fun q hq => (HV11.out.lt q hq).1)
              have X12 : X ≤ w12.heap.size := Nat.le_trans X11 hg12.size
              have hb12 : Below w3.heap.size w3 w12 := by have h1 := HBX12.out; rw [HX.out] at h1; exact h1
              have d42 := (H4At.below HB3.out hb12).c42
              have hsgd : Seg .u8 w12 da (toI h.data) := (HK.out.old (bthen bel3 hb12)).seg
              have HV12 : Hid (w12.ownsRow X 5 1 v12 (10 + 2 + (4 + 4 + L)) ((toI (PA ++ [sm / 256, sm % 256])).map (Value.int .u8) ++ (toI TL).map (Value.int .u8))) := ho12
              have hdl : h.data.length = n := HK.out.dl
              clear hg12 ho12 HV11 HTL11 HBX11 X11 hb12
              go_wp2_with (first | (at_builtin; refine append_split_seg rfl (.tmp 107) (.tmp 109) 26 rfl X 5 i0 (.int .u8 0) 1 Tryd.underlying26 hi hz0 hz1 hz2 rfl v12 _ _ rfl HV12.out .u8 da n c (toI h.data) rfl (by rw [toI_len]; exact hdl) hsgd (by unfold maxLen; omega) (by omega) X12 ?_))
              intro v13 w13 ho13 _ hg13
              have HF : Hid (Below w.heap.size w w13 ∧ RSer w h v13 w13) := by
                have h1 : Below X w3 w13 := HBX12.out.grown hg13 X12 (fun q hq => (HV12.out.lt q hq).1)
                have h2 : Below w3.heap.size w3 w13 := by rw [HX.out] at h1; exact h1
                have hlen : (I4.ser h).length = 10 + 2 + (4 + 4 + L) + n := by rw [HSP.out]; simp only [List.length_append, HPL.out, HTLL.out, hdl, List.length_cons, List.length_nil]; omega
                have hcs : (toI (I4.ser h)).map (Value.int .u8) = (toI (PA ++ [sm / 256, sm % 256])).map (Value.int .u8) ++ (toI TL).map (Value.int .u8) ++ (toI h.data).map (Value.int .u8) := by rw [HSP.out]; simp [toI]
                have ho : w13.ownsRow X 5 1 v13 (I4.ser h).length ((toI (I4.ser h)).map (Value.int .u8)) := by
                  rw [hlen, hcs]
                  simpa using ho13
                obtain ⟨va, vc, e⟩ := owns_shape ho
                refine ⟨bthen bel3 h2, .inl ⟨HR.out.symm, va, vc, e, owns_mono ho ?_⟩⟩
                rw [HX.out]
                exact bel3.size
              clear ho13 hg13
              go_wp2
              go_ret2
              exact ⟨_, rfl, HF.out.1, HF.out.2⟩
  | true =>
    cases hmf : h.mf with
    | false =>
      have hwd0 : (wd : Int) = 16384 + 0 + (off : Int) / 8 := by have h1 := HWD.out; rw [hdf, hmf] at h1; simpa using h1
      rw [hdf] at d2
      rw [hmf] at d3
      have HWD2 : Hid ((off : Int) / 8 + 16384 = (wd : Int)) := by show _ = _; omega
      have wx1 : IntKind.i64.wrap ((off : Int) / 8 + 16384) = (off : Int) / 8 + 16384 := by rw [IntKind.wrap_i64]; omega
      clear hwd0 HWD hdf hmf
      go_upto_region 11 with fail
      rw [HWD2.out]
      clear HWD2 d2 d3 d4
      have HA1 : Hid (64 + (20 + (L : Int)) / 4 = ((64 + (20 + L) / 4 : Nat) : Int)) := by show _ = _; omega
      have a2 : IntKind.i64.wrap (64 + (20 + (L : Int)) / 4) = 64 + (20 + (L : Int)) / 4 := by rw [IntKind.wrap_i64]; omega
      have a3 : IntKind.u8.wrap (64 + (20 + (L : Int)) / 4) = 64 + (20 + (L : Int)) / 4 := by rw [IntKind.wrap_u8]; omega
      have a4 : IntKind.u8.wrap (tos : Int) = (tos : Int) := by rw [IntKind.wrap_u8]; omega
      go_upto_region 12 with fail
      obtain ⟨X, hX⟩ : ∃ X, X = w3.heap.size := ⟨_, rfl⟩
      obtain ⟨w4, hw4⟩ : ∃ w4, w4 = w3.alloc (.cells #[.int .u8 (64 + (20 + (L : Int)) / 4), .int .u8 (tos : Int)] 5) := ⟨_, rfl⟩
      have B4 : Below X w3 w4 := by rw [hw4, hX]; exact (Below.refl _ _).alloc (Nat.le_refl _) _
      have O4 : w4.ownsRow X 5 1 (.slice (some ⟨X, 0, none⟩) 2 2) 2 ((toI [64 + (20 + L) / 4, tos]).map (Value.int .u8)) := by
        have h1 := World.ownsRow_lit (base := X) (e := 5) (size := 1) w3 #[.int .u8 (64 + (20 + (L : Int)) / 4), .int .u8 (tos : Int)] 2 (by omega) (by unfold maxLen; omega) rfl
        rw [← hw4, ← hX, HA1.out] at h1
        exact h1
      have X4 : X ≤ w4.heap.size := by rw [hX]; rw [hX] at B4; exact B4.size
      rw [← hw4, ← hX]
      have HX : Hid (X = w3.heap.size) := hX
      have HB4 : Hid (H4At w4 O h (.slice la ln lc) (.slice da n c)) := by rw [hX] at B4; exact H4At.below HB3.out B4
      have HBE4 : Hid (Below X w3 w4) := B4
      have HO4 : Hid _ := O4
      have d42 := HB4.out.c42
      have b1 : IntKind.i64.wrap (20 + (L : Int) + (n : Int)) = ((20 + L + n : Nat) : Int) := by rw [IntKind.wrap_i64]; omega
      have QA : Hid _ := add_any X (.slice (some ⟨X, 0, none⟩) 2 2) 2 (20 + L + n) [64 + (20 + L) / 4, tos] w4 rfl O4 (by omega) HTOT.out X4
      clear hX hw4 B4 O4 d0 HA1 a2 a3 a4 wa
      go_wp2_with fail
      refine Calls.mono QA.out ?_
      rintro e w5 ⟨v5, rfl, ho5, hc5, _⟩
      have HBE5 : Hid (Below X w3 w5) := chB HBE4.out X4 HO4.out hc5
      have X5 : X ≤ w5.heap.size := Nat.le_trans X4 hc5.size
      have HO5 : Hid _ := ho5
      have HB5 : Hid (H4At w5 O h (.slice la ln lc) (.slice da n c)) := by have h1 := HBE5.out; rw [HX.out] at h1; exact H4At.below HB3.out h1
      have d1 := HB5.out.c1
      rw [HID.out] at d1
      have QA2 : Hid _ := add_any X v5 4 id _ w5 rfl ho5 (by omega) lid X5
      clear QA hc5 ho5 HBE4 HO4 HB4 X4 d42 b1
      go_wp2_with fail
      refine Calls.mono QA2.out ?_
      rintro e w6 ⟨v6, rfl, ho6, hc6, _⟩
      have HBE6 : Hid (Below X w3 w6) := chB HBE5.out X5 HO5.out hc6
      have X6 : X ≤ w6.heap.size := Nat.le_trans X5 hc6.size
      have HO6 : Hid _ := ho6
      have QA3 : Hid _ := add_any X v6 6 wd _ w6 rfl ho6 (by omega) (by omega) X6
      clear QA2 hc6 ho6 HBE5 HO5 HB5 X5 d1
      go_wp2_with fail
      refine Calls.mono QA3.out ?_
      rintro e w7 ⟨v7, rfl, ho7, hc7, _⟩
      have HBE7 : Hid (Below X w3 w7) := chB HBE6.out X6 HO6.out hc7
      have X7 : X ≤ w7.heap.size := Nat.le_trans X6 hc7.size
      have HO7 : Hid (w7.ownsRow X 5 1 v7 8 ((toI ([64 + (20 + L) / 4, tos] ++ [(20 + L + n) / 256, (20 + L + n) % 256] ++ [id / 256, id % 256] ++ [wd / 256, wd % 256])).map (Value.int .u8))) := ho7
      have HB7 : Hid (H4At w7 O h (.slice la ln lc) (.slice da n c)) := by have h1 := HBE7.out; rw [HX.out] at h1; exact H4At.below HB3.out h1
      have d5 := HB7.out.c5
      have d6 := HB7.out.c6
      rw [HTTL.out] at d5
      rw [HPRO.out] at d6
      have u5 : IntKind.u8.wrap (ttl : Int) = (ttl : Int) := by rw [IntKind.wrap_u8]; omega
      have u6 : IntKind.u8.wrap (pro : Int) = (pro : Int) := by rw [IntKind.wrap_u8]; omega
      clear QA3 hc7 ho7 HBE6 HO6 X6
      go_wp2_with (first | (at_builtin; refine append_split_seg rfl (.tmp 61) (.tmp 68) 26 rfl X 5 i0 (.int .u8 0) 1 Tryd.underlying26 hi hz0 hz1 hz2 rfl v7 8 _ rfl (HO7.out.alloc _) .u8 (some ⟨w7.heap.size, 0, none⟩) 2 2 [(ttl : Int), (pro : Int)] rfl rfl (seg_newz w7 [(ttl : Int), (pro : Int)] _) (by unfold maxLen; omega) (by omega) (by simp; omega) ?_))
      intro v8 w8 ho8 _ hg8
      have HBE8 : Hid (Below X w3 w8) := by
        have h1 : Below X w3 (w7.alloc (.cells #[.int .u8 (ttl : Int), .int .u8 (pro : Int)] 5)) := HBE7.out.alloc X7 _
        exact h1.grown hg8 (by simp; omega) (fun q hq => (HO7.out.lt q hq).1)
      have X8 : X ≤ w8.heap.size := by have := hg8.size; simp at this; omega
      obtain ⟨PA, hPA⟩ : ∃ PA, PA = I4.hA h (I4.serHd h) (I4.serTl h) := ⟨_, rfl⟩
      have HPA : Hid (PA = I4.hA h (I4.serHd h) (I4.serTl h)) := hPA
      have HPL : Hid (PA.length = 10) := by show _ = _; rw [hPA]; rfl
      have HO8 : Hid (w8.ownsRow X 5 1 v8 10 ((toI PA).map (Value.int .u8))) := by
        rw [hPA, HP1.out]
        have e : (toI ([64 + (20 + L) / 4, tos] ++ [(20 + L + n) / 256, (20 + L + n) % 256] ++ [id / 256, id % 256] ++ [wd / 256, wd % 256] ++ [ttl, pro])).map (Value.int .u8) = (toI ([64 + (20 + L) / 4, tos] ++ [(20 + L + n) / 256, (20 + L + n) % 256] ++ [id / 256, id % 256] ++ [wd / 256, wd % 256])).map (Value.int .u8) ++ ([(ttl : Int), (pro : Int)] : List Int).map (Value.int .u8) := by simp [toI]
        rw [e]
        exact ho8
      have HB8 : Hid (H4At w8 O h (.slice la ln lc) (.slice da n c)) := by have h1 := HBE8.out; rw [HX.out] at h1; exact H4At.below HB3.out h1
      have HOP8 : Hid (w8.ownsRow w1.heap.size 5 1 (.slice oa L oc) L ((toI (I4.putO h.os)).map (Value.int .u8))) := by have h1 := HBE8.out; rw [HX.out] at h1; exact owns_below HOO.out h1
      obtain ⟨vb, vbc, rfl⟩ := owns_some HO8.out (by omega)
      obtain ⟨Y, hY⟩ : ∃ Y, Y = w8.heap.size := ⟨_, rfl⟩
      have HY : Hid (Y = w8.heap.size) := hY
      have HT0 : Hid (w8.ownsRow Y 5 1 (.slice none 0 0) 0 ((toI (ipL h.sx 0)).map (Value.int .u8)) ∧ Below Y w8 w8) := ⟨World.ownsRow_nil _ _ _ _, Below.refl _ _⟩
      clear ho8 hg8 HBE7 HO7 HB7 X7 hPA hY d5 d6 u5 u6 HP1
      go_wp2
      go_loopw [10, 11] (fun tl ix wr => ∃ (k : Nat) (v : Value), v = tl ∧ ix = .int .i64 k ∧ k ≤ 4 ∧ Hid (wr.ownsRow Y 5 1 v (k) ((toI (ipL h.sx k)).map (Value.int .u8)) ∧ Below Y w8 wr)) (fun _ ix _ => 4 - (intOf ix).toNat)
      case atStart => exact ⟨0, _, rfl, rfl, by omega, HT0⟩
      case round =>
        obtain ⟨k, vt, rfl, rfl, hk, HT⟩ := hrel
        by_cases hk4 : k < 4
        · have hb0 : Below w8.heap.size w8 wr := by have h1 := HT.out.2; rw [HY.out] at h1; exact h1
          have cc := (H4At.below HB8.out hb0).sxc k hk4
          have k0 : (0 : Int) ≤ (k : Int) := by omega
          have k1 : (k : Int) < 16 := by omega
          have k2 : ((k : Int)).toNat = k := by omega
          have k3 : (k : Int) < 4 := by omega
          obtain ⟨y, hy⟩ : ∃ y, y = h.sx k := ⟨_, rfl⟩
          rw [← hy] at cc
          have HYY : Hid (y = h.sx k) := hy
          have hszr : Y ≤ wr.heap.size := by rw [HY.out]; exact hb0.size
          clear hy hb0
          go_wp2_with (first | (at_builtin; refine append_split_seg rfl (.tmp 74) (.tmp 80) 26 rfl Y 5 i0 (.int .u8 0) 1 Tryd.underlying26 hi hz0 hz1 hz2 rfl vt (k) _ rfl (HT.out.1.alloc _) .u8 (some ⟨wr.heap.size, 0, none⟩) 1 1 [(y : Int)] rfl rfl (seg_newz wr [(y : Int)] _) (by unfold maxLen; omega) (by omega) (by simp; omega) ?_))
          intro v3 wy ho3 _ hg3
          have HT3 : Hid (wy.ownsRow Y 5 1 v3 ((k + 1)) ((toI (ipL h.sx (k + 1))).map (Value.int .u8)) ∧ Below Y w8 wy) := by
            have h1 : Below Y w8 (wr.alloc (.cells #[.int .u8 (y : Int)] 5)) := HT.out.2.alloc hszr _
            refine ⟨?_, h1.grown hg3 (by simp; omega) (fun q hq => (HT.out.1.lt q hq).1)⟩
            have e : (toI (ipL h.sx (k + 1))).map (Value.int .u8) = (toI (ipL h.sx k)).map (Value.int .u8) ++ ([(y : Int)] : List Int).map (Value.int .u8) := by rw [ipL_snoc h.sx k]; simp [toI, HYY.out]
            rw [e]
            exact ho3
          clear ho3 hg3
          go_wp2
          go_roundw
          case rel => exact ⟨k + 1, v3, rfl, by go_num, by omega, HT3⟩
          case measure => simp [intOf]; omega
        · have hni : ¬ ((k : Int) < 4) := by omega
          have e4 : k = 4 := by omega
          have HTE : Hid (wr.ownsRow Y 5 1 vt (4) ((toI (ipL h.sx 4)).map (Value.int .u8)) ∧ Below Y w8 wr) := by have h1 := HT.out; rw [e4] at h1; exact h1
          clear hk4 hk e4 HT
          have HT4 : Hid (wr.ownsRow Y 5 1 vt (4 + 0) ((toI (ipL h.sx 4 ++ ipL h.dx 0)).map (Value.int .u8)) ∧ Below Y w8 wr) := by
            refine ⟨?_, HTE.out.2⟩
            have e : ipL h.sx 4 ++ ipL h.dx 0 = ipL h.sx 4 := by simp [ipL]
            rw [e]
            exact HTE.out.1
          clear HTE
          go_wp2
          go_loopw [10, 12] (fun tl ix wr => ∃ (k : Nat) (v : Value), v = tl ∧ ix = .int .i64 k ∧ k ≤ 4 ∧ Hid (wr.ownsRow Y 5 1 v (4 + k) ((toI (ipL h.sx 4 ++ ipL h.dx k)).map (Value.int .u8)) ∧ Below Y w8 wr)) (fun _ ix _ => 4 - (intOf ix).toNat)
          case atStart => exact ⟨0, _, rfl, rfl, by omega, HT4⟩
          case round =>
            obtain ⟨k, vt, rfl, rfl, hk, HT⟩ := hrel
            by_cases hk4 : k < 4
            · have hb0 : Below w8.heap.size w8 wr := by have h1 := HT.out.2; rw [HY.out] at h1; exact h1
              have cc := (H4At.below HB8.out hb0).dxc k hk4
              have k0 : (0 : Int) ≤ (k : Int) := by omega
              have k1 : (k : Int) < 16 := by omega
              have k2 : ((k : Int)).toNat = k := by omega
              have k3 : (k : Int) < 4 := by omega
              obtain ⟨y, hy⟩ : ∃ y, y = h.dx k := ⟨_, rfl⟩
              rw [← hy] at cc
              have HYY : Hid (y = h.dx k) := hy
              have hszr : Y ≤ wr.heap.size := by rw [HY.out]; exact hb0.size
              clear hy hb0
              go_wp2_with (first | (at_builtin; refine append_split_seg rfl (.tmp 86) (.tmp 92) 26 rfl Y 5 i0 (.int .u8 0) 1 Tryd.underlying26 hi hz0 hz1 hz2 rfl vt (4 + k) _ rfl (HT.out.1.alloc _) .u8 (some ⟨wr.heap.size, 0, none⟩) 1 1 [(y : Int)] rfl rfl (seg_newz wr [(y : Int)] _) (by unfold maxLen; omega) (by omega) (by simp; omega) ?_))
              intro v3 wy ho3 _ hg3
              have HT3 : Hid (wy.ownsRow Y 5 1 v3 (4 + (k + 1)) ((toI (ipL h.sx 4 ++ ipL h.dx (k + 1))).map (Value.int .u8)) ∧ Below Y w8 wy) := by
                have h1 : Below Y w8 (wr.alloc (.cells #[.int .u8 (y : Int)] 5)) := HT.out.2.alloc hszr _
                refine ⟨?_, h1.grown hg3 (by simp; omega) (fun q hq => (HT.out.1.lt q hq).1)⟩
                have e : (toI (ipL h.sx 4 ++ ipL h.dx (k + 1))).map (Value.int .u8) = (toI (ipL h.sx 4 ++ ipL h.dx k)).map (Value.int .u8) ++ ([(y : Int)] : List Int).map (Value.int .u8) := by rw [ipL_snoc h.dx k]; simp [toI, HYY.out]
                rw [e, show 4 + (k + 1) = 4 + k + 1 by omega]
                exact ho3
              clear ho3 hg3
              go_wp2
              go_roundw
              case rel => exact ⟨k + 1, v3, rfl, by go_num, by omega, HT3⟩
              case measure => simp [intOf]; omega
            · have hni : ¬ ((k : Int) < 4) := by omega
              have e4 : k = 4 := by omega
              have HTE : Hid (wr.ownsRow Y 5 1 vt (4 + 4) ((toI (ipL h.sx 4 ++ ipL h.dx 4)).map (Value.int .u8)) ∧ Below Y w8 wr) := by have h1 := HT.out; rw [e4] at h1; exact h1
              clear hk4 hk e4 HT
              obtain ⟨ta, tc, rfl⟩ := owns_some HTE.out.1 (by omega)
              have hb0 : Below w8.heap.size w8 wr := by have h1 := HTE.out.2; rw [HY.out] at h1; exact h1
              have hszr : Y ≤ wr.heap.size := by rw [HY.out]; exact hb0.size
              have HOPr : Hid (wr.ownsRow w1.heap.size 5 1 (.slice oa L oc) L ((toI (I4.putO h.os)).map (Value.int .u8))) := owns_below HOP8.out hb0
              have HTR : Hid (wr.ownsRow Y 5 1 (.slice (some ⟨ta, 0, none⟩) (4 + 4) tc) (4 + 4) ((toI (I4.hZ h)).map (Value.int .u8))) := HTE.out.1
              have HTB : Hid (Below Y w8 wr) := HTE.out.2
              have hLp : (I4.putO h.os).length = L := HLL.out.symm
              clear HTE hb0
              go_upto_region 25 with fail
              go_wp2_with (first | (at_builtin; refine append_split_seg rfl (.tmp 94) (.tmp 95) 26 rfl Y 5 i0 (.int .u8 0) 1 Tryd.underlying26 hi hz0 hz1 hz2 rfl (.slice (some ⟨ta, 0, none⟩) (4 + 4) tc) (4 + 4) _ rfl HTR.out .u8 oa L oc (toI (I4.putO h.os)) rfl (by rw [toI_len]; exact hLp) (owns_at HOPr.out).1 (by unfold maxLen; omega) (by omega) hszr ?_))
              intro v9 w9 ho9 _ hg9
              have HTL9 : Hid (w9.ownsRow Y 5 1 v9 (4 + 4 + L) ((toI (I4.hZ h ++ I4.putO h.os)).map (Value.int .u8))) := by
                have e : (toI (I4.hZ h ++ I4.putO h.os)).map (Value.int .u8) = (toI (I4.hZ h)).map (Value.int .u8) ++ (toI (I4.putO h.os)).map (Value.int .u8) := by simp [toI]
                rw [e]; exact ho9
              have HB9 : Hid (Below w8.heap.size w8 w9) := by
                have h1 : Below Y w8 w9 := HTB.out.grown hg9 hszr (fun q hq => (HTR.out.lt q hq).1)
                rw [HY.out] at h1; exact h1
              obtain ⟨tb, tbc, rfl⟩ := owns_some HTL9.out (by omega)
              have HV9 : Hid (w9.ownsRow X 5 1 (.slice (some ⟨vb, 0, none⟩) 10 vbc) 10 ((toI PA).map (Value.int .u8))) := owns_below HO8.out HB9.out
              have HVB : Hid (vb < Y) := by rw [HY.out]; exact (HO8.out.lt vb rfl).2
              have HTBY : Hid (Y ≤ tb) := (HTL9.out.lt tb rfl).1
              obtain ⟨TL, hTL⟩ : ∃ TL, TL = I4.hZ h ++ I4.putO h.os := ⟨_, rfl⟩
              rw [← hTL] at HTL9
              have HTLE : Hid (TL = I4.hZ h ++ I4.putO h.os) := hTL
              have HTLL : Hid (TL.length = 4 + 4 + L) := by show _ = _; rw [hTL, List.length_append, hLp]; rfl
              have HS256 : Hid (∀ x ∈ I4.ser h, x < 256) := ser_256 h HM.out HK.out.sx HK.out.dx (by rw [HK.out.hos]; exact opts_256 HK.out.opts) HK.out.d256
              have HSP : Hid (I4.ser h = PA ++ ([I4.serSum h / 256, I4.serSum h % 256] ++ (TL ++ h.data))) := by
                show _ = _
                rw [hTL, HPA.out]
                exact I4.ser_split h
              have HP256 : Hid (∀ x ∈ PA, x < 256) := fun x hx => HS256.out x (by rw [HSP.out]; exact List.mem_append_left _ hx)
              have HT256 : Hid (∀ x ∈ TL, x < 256) := fun x hx => HS256.out x (by rw [HSP.out]; exact List.mem_append_right _ (List.mem_append_right _ (List.mem_append_left _ hx)))
              have hcp1 := (owns_at HV9.out).2
              have hcp2 := (owns_at HTL9.out).2
              have QK : Hid _ := rcheck_two w9 w9.heap.size (some ⟨vb, 0, none⟩) (some ⟨tb, 0, none⟩) 10 (4 + 4 + L) vbc tbc PA TL rfl HPL.out HTLL.out ⟨(owns_at HV9.out).1, HP256.out, by show PA.length ≤ vbc; rw [HPL.out]; exact hcp1.1, hcp1.2⟩ ⟨(owns_at HTL9.out).1, HT256.out, by show TL.length ≤ tbc; rw [HTLL.out]; exact hcp2.1, hcp2.2⟩ (by omega)
              have HSUM : Hid (65535 - S.fold (S.wv false (PA ++ TL)) = I4.serSum h) := by show _ = _; rw [I4.serSum_eq, HPA.out, HTLE.out]
              rw [HSUM.out] at QK
              obtain ⟨sm, hsm⟩ : ∃ sm, sm = I4.serSum h := ⟨_, rfl⟩
              have lsm : sm ≤ 65535 := by rw [hsm]; unfold I4.serSum; omega
              rw [← hsm] at QK HSP
              clear ho9 hg9 HTR HTB HOPr hLp hTL HSUM hsm hszr
              go_wp2_with fail
              refine Calls.mono QK.out ?_
              rintro e w10 ⟨rfl, hb10⟩
              have HB10 : Hid (Below w8.heap.size w8 w10) := bthen HB9.out hb10
              have HV10 : Hid (w10.ownsRow X 5 1 (.slice (some ⟨vb, 0, none⟩) 10 vbc) 10 ((toI PA).map (Value.int .u8))) := owns_below HV9.out hb10
              have HTL10 : Hid (w10.ownsRow Y 5 1 (.slice (some ⟨tb, 0, none⟩) (4 + 4 + L) tbc) (4 + 4 + L) ((toI TL).map (Value.int .u8))) := owns_below HTL9.out hb10
              have X10 : X ≤ w10.heap.size := Nat.le_trans X8 HB10.out.size
              have HBX10 : Hid (Below X w3 w10) := HBE8.out.trans (HB10.out.mono X8)
              have QA5 : Hid _ := add_any X (.slice (some ⟨vb, 0, none⟩) 10 vbc) 10 sm PA w10 HPL.out HV10.out (by omega) lsm X10
              clear QK hb10 HV9 HTL9 HB9
              go_wp2_with fail
              refine Calls.mono QA5.out ?_
              rintro e w11 ⟨v11, rfl, ho11, hc11, _⟩
              have HBX11 : Hid (Below X w3 w11) := chB HBX10.out X10 HV10.out hc11
              have X11 : X ≤ w11.heap.size := Nat.le_trans X10 hc11.size
              have HTL11 : Hid (w11.ownsRow Y 5 1 (.slice (some ⟨tb, 0, none⟩) (4 + 4 + L) tbc) (4 + 4 + L) ((toI TL).map (Value.int .u8))) := hc11.owns HTL10.out (fun q hq e => by
                have h1 : tb = q := by simpa [Value.ownBlock] using hq
                have h2 : vb = q := by simpa [Value.ownBlock] using e
                have := HVB.out
                have := HTBY.out
                omega)
              have HV11 : Hid (w11.ownsRow X 5 1 v11 (10 + 2) ((toI (PA ++ [sm / 256, sm % 256])).map (Value.int .u8))) := ho11
              clear QA5 hc11 ho11 HV10 HTL10 HB10 X10 HBX10
              go_wp2_with (first | (at_builtin; refine append_split_seg rfl (.tmp 104) (.tmp 105) 26 rfl X 5 i0 (.int .u8 0) 1 Tryd.underlying26 hi hz0 hz1 hz2 rfl v11 (10 + 2) _ rfl HV11.out .u8 (some ⟨tb, 0, none⟩) (4 + 4 + L) tbc (toI TL) rfl (by rw [toI_len]; exact HTLL.out) (owns_at HTL11.out).1 (by unfold maxLen; omega) (by omega) X11 ?_))
              intro v12 w12 ho12 _ hg12
              have HBX12 : Hid (Below X w3 w12) := HBX11.out.grown hg12 X11 (fun q hq => (HV11.out.lt q hq).1)
              have X12 : X ≤ w12.heap.size := Nat.le_trans X11 hg12.size
              have hb12 : Below w3.heap.size w3 w12 := by have h1 := HBX12.out; rw [HX.out] at h1; exact h1
              have d42 := (H4At.below HB3.out hb12).c42
              have hsgd : Seg .u8 w12 da (toI h.data) := (HK.out.old (bthen bel3 hb12)).seg
              have HV12 : Hid (w12.ownsRow X 5 1 v12 (10 + 2 + (4 + 4 + L)) ((toI (PA ++ [sm / 256, sm % 256])).map (Value.int .u8) ++ (toI TL).map (Value.int .u8))) := ho12
              have hdl : h.data.length = n := HK.out.dl
              clear hg12 ho12 HV11 HTL11 HBX11 X11 hb12
              go_wp2_with (first | (at_builtin; refine append_split_seg rfl (.tmp 107) (.tmp 109) 26 rfl X 5 i0 (.int .u8 0) 1 Tryd.underlying26 hi hz0 hz1 hz2 rfl v12 _ _ rfl HV12.out .u8 da n c (toI h.data) rfl (by rw [toI_len]; exact hdl) hsgd (by unfold maxLen; omega) (by omega) X12 ?_))
              intro v13 w13 ho13 _ hg13
              have HF : Hid (Below w.heap.size w w13 ∧ RSer w h v13 w13) := by
                have h1 : Below X w3 w13 := HBX12.out.grown hg13 X12 (fun q hq => (HV12.out.lt q hq).1)
                have h2 : Below w3.heap.size w3 w13 := by rw [HX.out] at h1; exact h1
                have hlen : (I4.ser h).length = 10 + 2 + (4 + 4 + L) + n := by rw [HSP.out]; simp only [List.length_append, HPL.out, HTLL.out, hdl, List.length_cons, List.length_nil]; omega
                have hcs : (toI (I4.ser h)).map (Value.int .u8) = (toI (PA ++ [sm / 256, sm % 256])).map (Value.int .u8) ++ (toI TL).map (Value.int .u8) ++ (toI h.data).map (Value.int .u8) := by rw [HSP.out]; simp [toI]
                have ho : w13.ownsRow X 5 1 v13 (I4.ser h).length ((toI (I4.ser h)).map (Value.int .u8)) := by
                  rw [hlen, hcs]
                  simpa using ho13
                obtain ⟨va, vc, e⟩ := owns_shape ho
                refine ⟨bthen bel3 h2, .inl ⟨HR.out.symm, va, vc, e, owns_mono ho ?_⟩⟩
                rw [HX.out]
                exact bel3.size
              clear ho13 hg13
              go_wp2
              go_ret2
              exact ⟨_, rfl, HF.out.1, HF.out.2⟩
    | true =>
      have hwd0 : (wd : Int) = 16384 + 8192 + (off : Int) / 8 := by have h1 := HWD.out; rw [hdf, hmf] at h1; simpa using h1
      rw [hdf] at d2
      rw [hmf] at d3
      have HWD2 : Hid ((off : Int) / 8 + 16384 + 8192 = (wd : Int)) := by show _ = _; omega
      have wx1 : IntKind.i64.wrap ((off : Int) / 8 + 16384) = (off : Int) / 8 + 16384 := by rw [IntKind.wrap_i64]; omega
      have wx2 : IntKind.i64.wrap ((off : Int) / 8 + 16384 + 8192) = (off : Int) / 8 + 16384 + 8192 := by rw [IntKind.wrap_i64]; omega
      clear hwd0 HWD hdf hmf
      go_upto_region 11 with fail
      rw [HWD2.out]
      clear HWD2 d2 d3 d4
      have HA1 : Hid (64 + (20 + (L : Int)) / 4 = ((64 + (20 + L) / 4 : Nat) : Int)) := by show _ = _; omega
      have a2 : IntKind.i64.wrap (64 + (20 + (L : Int)) / 4) = 64 + (20 + (L : Int)) / 4 := by rw [IntKind.wrap_i64]; omega
      have a3 : IntKind.u8.wrap (64 + (20 + (L : Int)) / 4) = 64 + (20 + (L : Int)) / 4 := by rw [IntKind.wrap_u8]; omega
      have a4 : IntKind.u8.wrap (tos : Int) = (tos : Int) := by rw [IntKind.wrap_u8]; omega
      go_upto_region 12 with fail
      obtain ⟨X, hX⟩ : ∃ X, X = w3.heap.size := ⟨_, rfl⟩
      obtain ⟨w4, hw4⟩ : ∃ w4, w4 = w3.alloc (.cells #[.int .u8 (64 + (20 + (L : Int)) / 4), .int .u8 (tos : Int)] 5) := ⟨_, rfl⟩
      have B4 : Below X w3 w4 := by rw [hw4, hX]; exact (Below.refl _ _).alloc (Nat.le_refl _) _
      have O4 : w4.ownsRow X 5 1 (.slice (some ⟨X, 0, none⟩) 2 2) 2 ((toI [64 + (20 + L) / 4, tos]).map (Value.int .u8)) := by
        have h1 := World.ownsRow_lit (base := X) (e := 5) (size := 1) w3 #[.int .u8 (64 + (20 + (L : Int)) / 4), .int .u8 (tos : Int)] 2 (by omega) (by unfold maxLen; omega) rfl
        rw [← hw4, ← hX, HA1.out] at h1
        exact h1
      have X4 : X ≤ w4.heap.size := by rw [hX]; rw [hX] at B4; exact B4.size
      rw [← hw4, ← hX]
      have HX : Hid (X = w3.heap.size) := hX
      have HB4 : Hid (H4At w4 O h (.slice la ln lc) (.slice da n c)) := by rw [hX] at B4; exact H4At.below HB3.out B4
      have HBE4 : Hid (Below X w3 w4) := B4
      have HO4 : Hid _ := O4
      have d42 := HB4.out.c42
      have b1 : IntKind.i64.wrap (20 + (L : Int) + (n : Int)) = ((20 + L + n : Nat) : Int) := by rw [IntKind.wrap_i64]; omega
      have QA : Hid _ := add_any X (.slice (some ⟨X, 0, none⟩) 2 2) 2 (20 + L + n) [64 + (20 + L) / 4, tos] w4 rfl O4 (by omega) HTOT.out X4
      clear hX hw4 B4 O4 d0 HA1 a2 a3 a4 wa
      go_wp2_with fail
      refine Calls.mono QA.out ?_
      rintro e w5 ⟨v5, rfl, ho5, hc5, _⟩
      have HBE5 : Hid (Below X w3 w5) := chB HBE4.out X4 HO4.out hc5
      have X5 : X ≤ w5.heap.size := Nat.le_trans X4 hc5.size
      have HO5 : Hid _ := ho5
      have HB5 : Hid (H4At w5 O h (.slice la ln lc) (.slice da n c)) := by have h1 := HBE5.out; rw [HX.out] at h1; exact H4At.below HB3.out h1
      have d1 := HB5.out.c1
      rw [HID.out] at d1
      have QA2 : Hid _ := add_any X v5 4 id _ w5 rfl ho5 (by omega) lid X5
      clear QA hc5 ho5 HBE4 HO4 HB4 X4 d42 b1
      go_wp2_with fail
      refine Calls.mono QA2.out ?_
      rintro e w6 ⟨v6, rfl, ho6, hc6, _⟩
      have HBE6 : Hid (Below X w3 w6) := chB HBE5.out X5 HO5.out hc6
      have X6 : X ≤ w6.heap.size := Nat.le_trans X5 hc6.size
      have HO6 : Hid _ := ho6
      have QA3 : Hid _ := add_any X v6 6 wd _ w6 rfl ho6 (by omega) (by omega) X6
      clear QA2 hc6 ho6 HBE5 HO5 HB5 X5 d1
      go_wp2_with fail
      refine Calls.mono QA3.out ?_
      rintro e w7 ⟨v7, rfl, ho7, hc7, _⟩
      have HBE7 : Hid (Below X w3 w7) := chB HBE6.out X6 HO6.out hc7
      have X7 : X ≤ w7.heap.size := Nat.le_trans X6 hc7.size
      have HO7 : Hid (w7.ownsRow X 5 1 v7 8 ((toI ([64 + (20 + L) / 4, tos] ++ [(20 + L + n) / 256, (20 + L + n) % 256] ++ [id / 256, id % 256] ++ [wd / 256, wd % 256])).map (Value.int .u8))) := ho7
      have HB7 : Hid (H4At w7 O h (.slice la ln lc) (.slice da n c)) := by have h1 := HBE7.out; rw [HX.out] at h1; exact H4At.below HB3.out h1
      have d5 := HB7.out.c5
      have d6 := HB7.out.c6
      rw [HTTL.out] at d5
      rw [HPRO.out] at d6
      have u5 : IntKind.u8.wrap (ttl : Int) = (ttl : Int) := by rw [IntKind.wrap_u8]; omega
      have u6 : IntKind.u8.wrap (pro : Int) = (pro : Int) := by rw [IntKind.wrap_u8]; omega
      clear QA3 hc7 ho7 HBE6 HO6 X6
      go_wp2_with (first | (at_builtin; refine append_split_seg rfl (.tmp 61) (.tmp 68) 26 rfl X 5 i0 (.int .u8 0) 1 Tryd.underlying26 hi hz0 hz1 hz2 rfl v7 8 _ rfl (HO7.out.alloc _) .u8 (some ⟨w7.heap.size, 0, none⟩) 2 2 [(ttl : Int), (pro : Int)] rfl rfl (seg_newz w7 [(ttl : Int), (pro : Int)] _) (by unfold maxLen; omega) (by omega) (by simp; omega) ?_))
      intro v8 w8 ho8 _ hg8
      have HBE8 : Hid (Below X w3 w8) := by
        have h1 : Below X w3 (w7.alloc (.cells #[.int .u8 (ttl : Int), .int .u8 (pro : Int)] 5)) := HBE7.out.alloc X7 _
        exact h1.grown hg8 (by simp; omega) (fun q hq => (HO7.out.lt q hq).1)
      have X8 : X ≤ w8.heap.size := by have := hg8.size; simp at this; omega
      obtain ⟨PA, hPA⟩ : ∃ PA, PA = I4.hA h (I4.serHd h) (I4.serTl h) := ⟨_, rfl⟩
      have HPA : Hid (PA = I4.hA h (I4.serHd h) (I4.serTl h)) := hPA
      have HPL : Hid (PA.length = 10) := by show _ = _; rw [hPA]; rfl
      have HO8 : Hid (w8.ownsRow X 5 1 v8 10 ((toI PA).map (Value.int .u8))) := by
        rw [hPA, HP1.out]
        have e : (toI ([64 + (20 + L) / 4, tos] ++ [(20 + L + n) / 256, (20 + L + n) % 256] ++ [id / 256, id % 256] ++ [wd / 256, wd % 256] ++ [ttl, pro])).map (Value.int .u8) = (toI ([64 + (20 + L) / 4, tos] ++ [(20 + L + n) / 256, (20 + L + n) % 256] ++ [id / 256, id % 256] ++ [wd / 256, wd % 256])).map (Value.int .u8) ++ ([(ttl : Int), (pro : Int)] : List Int).map (Value.int .u8) := by simp [toI]
        rw [e]
        exact ho8
      have HB8 : Hid (H4At w8 O h (.slice la ln lc) (.slice da n c)) := by have h1 := HBE8.out; rw [HX.out] at h1; exact H4At.below HB3.out h1
      have HOP8 : Hid (w8.ownsRow w1.heap.size 5 1 (.slice oa L oc) L ((toI (I4.putO h.os)).map (Value.int .u8))) := by have h1 := HBE8.out; rw [HX.out] at h1; exact owns_below HOO.out h1
      obtain ⟨vb, vbc, rfl⟩ := owns_some HO8.out (by omega)
      obtain ⟨Y, hY⟩ : ∃ Y, Y = w8.heap.size := ⟨_, rfl⟩
      have HY : Hid (Y = w8.heap.size) := hY
      have HT0 : Hid (w8.ownsRow Y 5 1 (.slice none 0 0) 0 ((toI (ipL h.sx 0)).map (Value.int .u8)) ∧ Below Y w8 w8) := ⟨World.ownsRow_nil _ _ _ _, Below.refl _ _⟩
      clear ho8 hg8 HBE7 HO7 HB7 X7 hPA hY d5 d6 u5 u6 HP1
      go_wp2
      go_loopw [10, 11] (fun tl ix wr => ∃ (k : Nat) (v : Value), v = tl ∧ ix = .int .i64 k ∧ k ≤ 4 ∧ Hid (wr.ownsRow Y 5 1 v (k) ((toI (ipL h.sx k)).map (Value.int .u8)) ∧ Below Y w8 wr)) (fun _ ix _ => 4 - (intOf ix).toNat)
      case atStart => exact ⟨0, _, rfl, rfl, by omega, HT0⟩
      case round =>
        obtain ⟨k, vt, rfl, rfl, hk, HT⟩ := hrel
        by_cases hk4 : k < 4
        · have hb0 : Below w8.heap.size w8 wr := by have h1 := HT.out.2; rw [HY.out] at h1; exact h1
          have cc := (H4At.below HB8.out hb0).sxc k hk4
          have k0 : (0 : Int) ≤ (k : Int) := by omega
          have k1 : (k : Int) < 16 := by omega
          have k2 : ((k : Int)).toNat = k := by omega
          have k3 : (k : Int) < 4 := by omega
          obtain ⟨y, hy⟩ : ∃ y, y = h.sx k := ⟨_, rfl⟩
          rw [← hy] at cc
          have HYY : Hid (y = h.sx k) := hy
          have hszr : Y ≤ wr.heap.size := by rw [HY.out]; exact hb0.size
          clear hy hb0
          go_wp2_with (first | (at_builtin; refine append_split_seg rfl (.tmp 74) (.tmp 80) 26 rfl Y 5 i0 (.int .u8 0) 1 Tryd.underlying26 hi hz0 hz1 hz2 rfl vt (k) _ rfl (HT.out.1.alloc _) .u8 (some ⟨wr.heap.size, 0, none⟩) 1 1 [(y : Int)] rfl rfl (seg_newz wr [(y : Int)] _) (by unfold maxLen; omega) (by omega) (by simp; omega) ?_))
          intro v3 wy ho3 _ hg3
          have HT3 : Hid (wy.ownsRow Y 5 1 v3 ((k + 1)) ((toI (ipL h.sx (k + 1))).map (Value.int .u8)) ∧ Below Y w8 wy) := by
            have h1 : Below Y w8 (wr.alloc (.cells #[.int .u8 (y : Int)] 5)) := HT.out.2.alloc hszr _
            refine ⟨?_, h1.grown hg3 (by simp; omega) (fun q hq => (HT.out.1.lt q hq).1)⟩
            have e : (toI (ipL h.sx (k + 1))).map (Value.int .u8) = (toI (ipL h.sx k)).map (Value.int .u8) ++ ([(y : Int)] : List Int).map (Value.int .u8) := by rw [ipL_snoc h.sx k]; simp [toI, HYY.out]
            rw [e]
            exact ho3
          clear ho3 hg3
          go_wp2
          go_roundw
          case rel => exact ⟨k + 1, v3, rfl, by go_num, by omega, HT3⟩
          case measure => simp [intOf]; omega
        · have hni : ¬ ((k : Int) < 4) := by omega
          have e4 : k = 4 := by omega
          have HTE : Hid (wr.ownsRow Y 5 1 vt (4) ((toI (ipL h.sx 4)).map (Value.int .u8)) ∧ Below Y w8 wr) := by have h1 := HT.out; rw [e4] at h1; exact h1
          clear hk4 hk e4 HT
          have HT4 : Hid (wr.ownsRow Y 5 1 vt (4 + 0) ((toI (ipL h.sx 4 ++ ipL h.dx 0)).map (Value.int .u8)) ∧ Below Y w8 wr) := by
            refine ⟨?_, HTE.out.2⟩
            have e : ipL h.sx 4 ++ ipL h.dx 0 = ipL h.sx 4 := by simp [ipL]
            rw [e]
            exact HTE.out.1
          clear HTE
          go_wp2
          go_loopw [10, 12] (fun tl ix wr => ∃ (k : Nat) (v : Value), v = tl ∧ ix = .int .i64 k ∧ k ≤ 4 ∧ Hid (wr.ownsRow Y 5 1 v (4 + k) ((toI (ipL h.sx 4 ++ ipL h.dx k)).map (Value.int .u8)) ∧ Below Y w8 wr)) (fun _ ix _ => 4 - (intOf ix).toNat)
          case atStart => exact ⟨0, _, rfl, rfl, by omega, HT4⟩
          case round =>
            obtain ⟨k, vt, rfl, rfl, hk, HT⟩ := hrel
            by_cases hk4 : k < 4
            · have hb0 : Below w8.heap.size w8 wr := by have h1 := HT.out.2; rw [HY.out] at h1; exact h1
              have cc := (H4At.below HB8.out hb0).dxc k hk4
              have k0 : (0 : Int) ≤ (k : Int) := by omega
              have k1 : (k : Int) < 16 := by omega
              have k2 : ((k : Int)).toNat = k := by omega
              have k3 : (k : Int) < 4 := by omega
              obtain ⟨y, hy⟩ : ∃ y, y = h.dx k := ⟨_, rfl⟩
              rw [← hy] at cc
              have HYY : Hid (y = h.dx k) := hy
              have hszr : Y ≤ wr.heap.size := by rw [HY.out]; exact hb0.size
              clear hy hb0
              go_wp2_with (first | (at_builtin; refine append_split_seg rfl (.tmp 86) (.tmp 92) 26 rfl Y 5 i0 (.int .u8 0) 1 Tryd.underlying26 hi hz0 hz1 hz2 rfl vt (4 + k) _ rfl (HT.out.1.alloc _) .u8 (some ⟨wr.heap.size, 0, none⟩) 1 1 [(y : Int)] rfl rfl (seg_newz wr [(y : Int)] _) (by unfold maxLen; omega) (by omega) (by simp; omega) ?_))
              intro v3 wy ho3 _ hg3
              have HT3 : Hid (wy.ownsRow Y 5 1 v3 (4 + (k + 1)) ((toI (ipL h.sx 4 ++ ipL h.dx (k + 1))).map (Value.int .u8)) ∧ Below Y w8 wy) := by
                have h1 : Below Y w8 (wr.alloc (.cells #[.int .u8 (y : Int)] 5)) := HT.out.2.alloc hszr _
                refine ⟨?_, h1.grown hg3 (by simp; omega) (fun q hq => (HT.out.1.lt q hq).1)⟩
                have e : (toI (ipL h.sx 4 ++ ipL h.dx (k + 1))).map (Value.int .u8) = (toI (ipL h.sx 4 ++ ipL h.dx k)).map (Value.int .u8) ++ ([(y : Int)] : List Int).map (Value.int .u8) := by rw [ipL_snoc h.dx k]; simp [toI, HYY.out]
                rw [e, show 4 + (k + 1) = 4 + k + 1 by omega]
                exact ho3
              clear ho3 hg3
              go_wp2
              go_roundw
              case rel => exact ⟨k + 1, v3, rfl, by go_num, by omega, HT3⟩
              case measure => simp [intOf]; omega
            · have hni : ¬ ((k : Int) < 4) := by omega
              have e4 : k = 4 := by omega
              have HTE : Hid (wr.ownsRow Y 5 1 vt (4 + 4) ((toI (ipL h.sx 4 ++ ipL h.dx 4)).map (Value.int .u8)) ∧ Below Y w8 wr) := by have h1 := HT.out; rw [e4] at h1; exact h1
              clear hk4 hk e4 HT
              obtain ⟨ta, tc, rfl⟩ := owns_some HTE.out.1 (by omega)
              have hb0 : Below w8.heap.size w8 wr := by have h1 := HTE.out.2; rw [HY.out] at h1; exact h1
              have hszr : Y ≤ wr.heap.size := by rw [HY.out]; exact hb0.size
              have HOPr : Hid (wr.ownsRow w1.heap.size 5 1 (.slice oa L oc) L ((toI (I4.putO h.os)).map (Value.int .u8))) := owns_below HOP8.out hb0
              have HTR : Hid (wr.ownsRow Y 5 1 (.slice (some ⟨ta, 0, none⟩) (4 + 4) tc) (4 + 4) ((toI (I4.hZ h)).map (Value.int .u8))) := HTE.out.1
              have HTB : Hid (Below Y w8 wr) := HTE.out.2
              have hLp : (I4.putO h.os).length = L := HLL.out.symm
              clear HTE hb0
              go_upto_region 25 with fail
              go_wp2_with (first | (at_builtin; refine append_split_seg rfl (.tmp 94) (.tmp 95) 26 rfl Y 5 i0 (.int .u8 0) 1 Tryd.underlying26 hi hz0 hz1 hz2 rfl (.slice (some ⟨ta, 0, none⟩) (4 + 4) tc) (4 + 4) _ rfl HTR.out .u8 oa L oc (toI (I4.putO h.os)) rfl (by rw [toI_len]; exact hLp) (owns_at HOPr.out).1 (by unfold maxLen; omega) (by omega) hszr ?_))
              intro v9 w9 ho9 _ hg9
              have HTL9 : Hid (w9.ownsRow Y 5 1 v9 (4 + 4 + L) ((toI (I4.hZ h ++ I4.putO h.os)).map (Value.int .u8))) := by
                have e : (toI (I4.hZ h ++ I4.putO h.os)).map (Value.int .u8) = (toI (I4.hZ h)).map (Value.int .u8) ++ (toI (I4.putO h.os)).map (Value.int .u8) := by simp [toI]
                rw [e]; exact ho9
              have HB9 : Hid (Below w8.heap.size w8 w9) := by
                have h1 : Below Y w8 w9 := HTB.out.grown hg9 hszr (fun q hq => (HTR.out.lt q hq).1)
                rw [HY.out] at h1; exact h1
              obtain ⟨tb, tbc, rfl⟩ := owns_some HTL9.out (by omega)
              have HV9 : Hid (w9.ownsRow X 5 1 (.slice (some ⟨vb, 0, none⟩) 10 vbc) 10 ((toI PA).map (Value.int .u8))) := owns_below HO8.out HB9.out
              have HVB : Hid (vb < Y) := by rw [HY.out]; exact (HO8.out.lt vb rfl).2
              have HTBY : Hid (Y ≤ tb) := (HTL9.out.lt tb rfl).1
              obtain ⟨TL, hTL⟩ : ∃ TL, TL = I4.hZ h ++ I4.putO h.os := ⟨_, rfl⟩
              rw [← hTL] at HTL9
              have HTLE : Hid (TL = I4.hZ h ++ I4.putO h.os) := hTL
              have HTLL : Hid (TL.length = 4 + 4 + L) := by show _ = _; rw [hTL, List.length_append, hLp]; rfl
              have HS256 : Hid (∀ x ∈ I4.ser h, x < 256) := ser_256 h HM.out HK.out.sx HK.out.dx (by rw [HK.out.hos]; exact opts_256 HK.out.opts) HK.out.d256
              have HSP : Hid (I4.ser h = PA ++ ([I4.serSum h / 256, I4.serSum h % 256] ++ (TL ++ h.data))) := by
                show _ = _
                rw [hTL, HPA.out]
                exact I4.ser_split h
              have HP256 : Hid (∀ x ∈ PA, x < 256) := fun x hx => HS256.out x (by rw [HSP.out]; exact List.mem_append_left _ hx)
              have HT256 : Hid (∀ x ∈ TL, x < 256) := fun x hx => HS256.out x (by rw [HSP.out]; exact List.mem_append_right _ (List.mem_append_right _ (List.mem_append_left _ hx)))
              have hcp1 := (owns_at HV9.out).2
              have hcp2 := (owns_at HTL9.out).2
              have QK : Hid _ := rcheck_two w9 w9.heap.size (some ⟨vb, 0, none⟩) (some ⟨tb, 0, none⟩) 10 (4 + 4 + L) vbc tbc PA TL rfl HPL.out HTLL.out ⟨(owns_at HV9.out).1, HP256.out, by show PA.length ≤ vbc; rw [HPL.out]; exact hcp1.1, hcp1.2⟩ ⟨(owns_at HTL9.out).1, HT256.out, by show TL.length ≤ tbc; rw [HTLL.out]; exact hcp2.1, hcp2.2⟩ (by omega)
              have HSUM : Hid (65535 - S.fold (S.wv false (PA ++ TL)) = I4.serSum h) := by show _ = _; rw [I4.serSum_eq, HPA.out, HTLE.out]
              rw [HSUM.out] at QK
              obtain ⟨sm, hsm⟩ : ∃ sm, sm = I4.serSum h := ⟨_, rfl⟩
              have lsm : sm ≤ 65535 := by rw [hsm]; unfold I4.serSum; omega
              rw [← hsm] at QK HSP
              clear ho9 hg9 HTR HTB HOPr hLp hTL HSUM hsm hszr
              go_wp2_with fail
              refine Calls.mono QK.out ?_
              rintro e w10 ⟨rfl, hb10⟩
              have HB10 : Hid (Below w8.heap.size w8 w10) := bthen HB9.out hb10
              have HV10 : Hid (w10.ownsRow X 5 1 (.slice (some ⟨vb, 0, none⟩) 10 vbc) 10 ((toI PA).map (Value.int .u8))) := owns_below HV9.out hb10
              have HTL10 : Hid (w10.ownsRow Y 5 1 (.slice (some ⟨tb, 0, none⟩) (4 + 4 + L) tbc) (4 + 4 + L) ((toI TL).map (Value.int .u8))) := owns_below HTL9.out hb10
              have X10 : X ≤ w10.heap.size := Nat.le_trans X8 HB10.out.size
              have HBX10 : Hid (Below X w3 w10) := HBE8.out.trans (HB10.out.mono X8)
              have QA5 : Hid _ := add_any X (.slice (some ⟨vb, 0, none⟩) 10 vbc) 10 sm PA w10 HPL.out HV10.out (by omega) lsm X10
              clear QK hb10 HV9 HTL9 HB9
              go_wp2_with fail
              refine Calls.mono QA5.out ?_
              rintro e w11 ⟨v11, rfl, ho11, hc11, _⟩
              have HBX11 : Hid (Below X w3 w11) := chB HBX10.out X10 HV10.out hc11
              have X11 : X ≤ w11.heap.size := Nat.le_trans X10 hc11.size
              have HTL11 : Hid (w11.ownsRow Y 5 1 (.slice (some ⟨tb, 0, none⟩) (4 + 4 + L) tbc) (4 + 4 + L) ((toI TL).map (Value.int .u8))) := hc11.owns HTL10.out (fun q hq e => by
                have h1 : tb = q := by simpa [Value.ownBlock] using hq
                have h2 : vb = q := by simpa [Value.ownBlock] using e
                have := HVB.out
                have := HTBY.out
                omega)
              have HV11 : Hid (w11.ownsRow X 5 1 v11 (10 + 2) ((toI (PA ++ [sm / 256, sm % 256])).map (Value.int .u8))) := ho11
              clear QA5 hc11 ho11 HV10 HTL10 HB10 X10 HBX10
              go_wp2_with (first | (at_builtin; refine append_split_seg rfl (.tmp 104) (.tmp 105) 26 rfl X 5 i0 (.int .u8 0) 1 Tryd.underlying26 hi hz0 hz1 hz2 rfl v11 (10 + 2) _ rfl HV11.out .u8 (some ⟨tb, 0, none⟩) (4 + 4 + L) tbc (toI TL) rfl (by rw [toI_len]; exact HTLL.out) (owns_at HTL11.out).1 (by unfold maxLen; omega) (by omega) X11 ?_))
              intro v12 w12 ho12 _ hg12
              have HBX12 : Hid (Below X w3 w12) := HBX11.out.grown hg12 X11 (fun q hq => (HV11.out.lt q hq).1)
              have X12 : X ≤ w12.heap.size := Nat.le_trans X11 hg12.size
              have hb12 : Below w3.heap.size w3 w12 := by have h1 := HBX12.out; rw [HX.out] at h1; exact h1
              have d42 := (H4At.below HB3.out hb12).c42
              have hsgd : Seg .u8 w12 da (toI h.data) := (HK.out.old (bthen bel3 hb12)).seg
              have HV12 : Hid (w12.ownsRow X 5 1 v12 (10 + 2 + (4 + 4 + L)) ((toI (PA ++ [sm / 256, sm % 256])).map (Value.int .u8) ++ (toI TL).map (Value.int .u8))) := ho12
              have hdl : h.data.length = n := HK.out.dl
              clear hg12 ho12 HV11 HTL11 HBX11 X11 hb12
              go_wp2_with (first | (at_builtin; refine append_split_seg rfl (.tmp 107) (.tmp 109) 26 rfl X 5 i0 (.int .u8 0) 1 Tryd.underlying26 hi hz0 hz1 hz2 rfl v12 _ _ rfl HV12.out .u8 da n c (toI h.data) rfl (by rw [toI_len]; exact hdl) hsgd (by unfold maxLen; omega) (by omega) X12 ?_))
              intro v13 w13 ho13 _ hg13
              have HF : Hid (Below w.heap.size w w13 ∧ RSer w h v13 w13) := by
                have h1 : Below X w3 w13 := HBX12.out.grown hg13 X12 (fun q hq => (HV12.out.lt q hq).1)
                have h2 : Below w3.heap.size w3 w13 := by rw [HX.out] at h1; exact h1
                have hlen : (I4.ser h).length = 10 + 2 + (4 + 4 + L) + n := by rw [HSP.out]; simp only [List.length_append, HPL.out, HTLL.out, hdl, List.length_cons, List.length_nil]; omega
                have hcs : (toI (I4.ser h)).map (Value.int .u8) = (toI (PA ++ [sm / 256, sm % 256])).map (Value.int .u8) ++ (toI TL).map (Value.int .u8) ++ (toI h.data).map (Value.int .u8) := by rw [HSP.out]; simp [toI]
                have ho : w13.ownsRow X 5 1 v13 (I4.ser h).length ((toI (I4.ser h)).map (Value.int .u8)) := by
                  rw [hlen, hcs]
                  simpa using ho13
                obtain ⟨va, vc, e⟩ := owns_shape ho
                refine ⟨bthen bel3 h2, .inl ⟨HR.out.symm, va, vc, e, owns_mono ho ?_⟩⟩
                rw [HX.out]
                exact bel3.size
              clear ho13 hg13
              go_wp2
              go_ret2
              exact ⟨_, rfl, HF.out.1, HF.out.2⟩
end Go.Proofs.YtdinhgfkpjaipaaDoor
namespace Go.Proofs.YtdinhgfkpjaipaaDoor.MixH
open Go.Proofs.YtdinhgfkpjaipaaDoor.Mix
/-- one of two may come up -/
theorem pair {P : Program} {l : List Oper} {Q : Exit → Act → World → Prop} {S : World → Prop} {F : Nat} {listed : Array Bool} {a : Act} {w : World} (fs1 fs2 : List Bool) (fuel : Nat) (i j : Nat) (o1 o2 : Oper) (ho1 : pick fs1 l = [o1]) (ho2 : pick fs2 l = [o2]) (hi : l[i]? = some o1) (hj : l[j]? = some o2) (hr : Region.ready .any l.toArray listed = [i, j]) (hF : F = fuel + 1)
    (h1 : ∀ K : Act → World → Prop, (∀ a' w', S w' → wpAnyH P .any l.toArray (only Q) S fuel (listed.setIfInBounds i true) a' w' → K a' w') → wpList P l.toArray (only fun _ => K) (pick fs1 l) a w)
    (h2 : ∀ K : Act → World → Prop, (∀ a' w', S w' → wpAnyH P .any l.toArray (only Q) S fuel (listed.setIfInBounds j true) a' w' → K a' w') → wpList P l.toArray (only fun _ => K) (pick fs2 l) a w) : wpAnyH P .any l.toArray (only Q) S F listed a w := by
  subst hF
  refine wpAnyH_all hr (by simp) fun m hm => ?_
  simp only [List.mem_cons, List.not_mem_nil, or_false] at hm
  rcases hm with rfl | rfl
  · have h0 := h1 _ (fun _ _ hs h => (⟨hs, h⟩ : _ ∧ _))
    rw [ho1] at h0
    have hi' : l.toArray[m]? = some o1 := by simpa using hi
    unfold wpOp
    simp only [hi']
    unfold wpList at h0
    split
    · rename_i hw
      rw [if_pos hw] at h0
      rcases h0 with h0 | ⟨_, h0⟩
      · exact .inl (wp_only (fun a w h => h.2) h0)
      · exact absurd h0 (no_out _)
    · rename_i hw
      rw [if_neg hw] at h0
      exact h0.2
  · have h0 := h2 _ (fun _ _ hs h => (⟨hs, h⟩ : _ ∧ _))
    rw [ho2] at h0
    have hi' : l.toArray[m]? = some o2 := by simpa using hj
    unfold wpOp
    simp only [hi']
    unfold wpList at h0
    split
    · rename_i hw
      rw [if_pos hw] at h0
      rcases h0 with h0 | ⟨_, h0⟩
      · exact .inl (wp_only (fun a w h => h.2) h0)
      · exact absurd h0 (no_out _)
    · rename_i hw
      rw [if_neg hw] at h0
      exact h0.2
end Go.Proofs.YtdinhgfkpjaipaaDoor.MixH
namespace Go.Proofs.YtdinhgfkpjaipaaDoor
open Go.RowKit
open I4 (H4 scan Op4)

set_option maxRecDepth 100000 in
theorem built_h4s (t i f l p : Int) (d m : Bool) (x y : Nat → Nat) (oa da : Option Addr) (on oc dn dc : Nat) : Tryd.prog.built 28 [(0, .int .i64 t), (1, .int .i64 i), (2, .bool d), (3, .bool m), (4, .int .i64 f), (5, .int .i64 l), (6, .int .i64 p), (7, .agg (ipCells 4 x)), (8, .agg (ipCells 4 y)), (9, .slice oa on oc), (10, .slice da dn dc)] = some (h4C ⟨t, i, d, m, f, l, p, 4, x, 4, y, [], []⟩ (.slice oa on oc) (.slice da dn dc)) := by kernel_rfl
theorem yields_build_h4s {ops : Array Oper} {S : World → Prop} {o : Oper} {a : Act} (x0 x1 x2 x3 x4 x5 x6 x7 x8 x9 x10 : Operand) (ho : o.op = .build 28 #[(0, x0), (1, x1), (2, x2), (3, x3), (4, x4), (5, x5), (6, x6), (7, x7), (8, x8), (9, x9), (10, x10)]) (t i f l p : Int) (d m : Bool) (x y : Nat → Nat) (oa da : Option Addr) (on oc dn dc : Nat) (h0 : a.eval x0 = .int .i64 t) (h1 : a.eval x1 = .int .i64 i) (h2 : a.eval x2 = .bool d) (h3 : a.eval x3 = .bool m) (h4 : a.eval x4 = .int .i64 f) (h5 : a.eval x5 = .int .i64 l) (h6 : a.eval x6 = .int .i64 p) (h7 : a.eval x7 = .agg (ipCells 4 x)) (h8 : a.eval x8 = .agg (ipCells 4 y)) (h9 : a.eval x9 = .slice oa on oc) (h10 : a.eval x10 = .slice da dn dc)
    (hw : Region.wanted o (yielded ops a.tmps) = true) : YieldsIf Tryd.prog ops S o (.agg (h4C ⟨t, i, d, m, f, l, p, 4, x, 4, y, [], []⟩ (.slice oa on oc) (.slice da dn dc))) a := by
  refine .inl ⟨hw, fun w _ => ?_⟩
  unfold execOp
  have := run_build (P := Tryd.prog) w 28 #[(0, .int .i64 t), (1, .int .i64 i), (2, .bool d), (3, .bool m), (4, .int .i64 f), (5, .int .i64 l), (6, .int .i64 p), (7, .agg (ipCells 4 x)), (8, .agg (ipCells 4 y)), (9, .slice oa on oc), (10, .slice da dn dc)] _ (built_h4s t i f l p d m x y oa da on oc dn dc)
  simp only [ho, Sem.run_bind, List.map_toArray, List.map_cons, List.map_nil, h0, h1, h2, h3, h4, h5, h6, h7, h8, h9, h10, this, Result.andThen_ok]
  rfl
theorem own_ne {w : World} {B O : Nat} {e : TypeId} {s n : Nat} {v : Value} {xs : List Value} {h : H4} {ol dl : Value} (ho : w.ownsRow B e s v n xs) (hb : H4At w O h ol dl) (hne : e ≠ 28) (q : Nat) (hq : v.ownBlock = some q) : q ≠ O := by
  rintro rfl
  obtain ⟨c, hc⟩ := kindN ho q hq
  unfold H4At at hb
  rw [hb] at hc
  simp at hc
  exact hne hc.2.symm
/-- what it answers -/
def RPar (bs : List Nat) (e : Ending) (w' : World) : Prop :=
  (I4.pE bs ≠ 0 ∧ e = .returned (.tuple #[.agg (h4C h4z nilS nilS), .int .i64 (I4.pE bs : Nat)])) ∨
  (I4.pE bs = 0 ∧ ∃ lb K lc ps va vn vc, e = .returned (.tuple #[.agg (h4C (I4.pH bs) (.slice lb K lc) (.slice va vn vc)), .int .i64 0]) ∧ H4Ok w' (I4.pH bs) lb K lc ps va vn vc)
set_option maxHeartbeats 12800000 in
set_option maxRecDepth 100000 in
theorem rparse_any (a : Option Addr) (n cap : Nat) (bs : List Nat) (w : World) (hn : bs.length = n) (hs : Seg .u8 w a (toI bs)) (h256 : ∀ x ∈ bs, x < 256) (h2 : n ≤ cap) (h3 : cap ≤ 9223372036854775807) (hm : n ≤ 1048576) :
    Calls Tryd.prog 36 #[.slice a n cap] w fun e w' => Below w.heap.size w w' ∧ RPar bs e w' := by
  obtain ⟨W1, hW1⟩ : ∃ W, W = w.alloc (.cells (h4C h4z nilS nilS) 28) := ⟨_, rfl⟩
  obtain ⟨O, hO⟩ : ∃ O, O = w.heap.size := ⟨_, rfl⟩
  have hs1 : W1.heap.size = O + 1 := by rw [hW1, hO]; simp
  have bel1 : Below w.heap.size w W1 := by rw [hW1]; exact (Below.refl _ _).alloc (Nat.le_refl _) _
  have HR1 : Hid (H4At W1 O h4z nilS nilS) := by rw [hW1, hO]; exact h4At_new _ _ _ _
  have HW : Hid (w.alloc (.cells (h4C h4z nilS nilS) 28) = W1) := hW1.symm
  have HO : Hid (w.heap.size = O) := hO.symm
  have HS1 : Hid (W1.heap.size = O + 1) := hs1
  have HN : Hid (bs.length = n) := hn
  have H256 : Hid (∀ x ∈ bs, x < 256) := h256
  have HSEG : Hid (∀ A, Below w.heap.size w A → Seg .u8 A a (toI bs)) := fun A hA => hs.old hA
  have HCAP : Hid (n ≤ cap ∧ cap ≤ 9223372036854775807) := ⟨h2, h3⟩
  have HSEG0 : Hid (Seg .u8 w a (toI bs)) := hs
  clear hW1 hO hs1 hn hs h256 h3
  go_enter Tryd.func36, Tryd.ntmps36
  go_upto_region 1 with (first | (refine wpList_alloc_h4 rfl rfl ?_))
  rw [HW.out, HO.out]
  go_upto_region 2 with (first | (refine wpList_build0 rfl rfl ?_) | (refine wpList_alloc_h4 rfl rfl ?_) | (refine wpList_store_h4 (.tmp 4) (.tmp 12) rfl rfl W1.heap.size h4z h4z nilS nilS nilS nilS rfl rfl rfl rfl (h4At_new _ _ _ _) rfl ?_))
  intro w2 hP2 k2
  have sb2 := stored_below k2
  have bel2 := bthen bel1 sb2
  rw [HS1.out] at hP2 ⊢
  have HZ2 : Hid (H4At w2 (O + 1) h4z nilS nilS) := hP2
  have HR2 : Hid (H4At w2 O h4z nilS nilS) := H4At.below HR1.out sb2
  clear hP2 k2 sb2 bel1 HR1 HS1 HW
  by_cases c1 : 65535 < n
  · have c1' : (65535 : Int) < (n : Int) := by omega
    have HC1 : Hid (65535 < n) := c1
    clear c1
    have HE : Hid (I4.pE bs = 2) := by
      show I4.pE bs = 2
      unfold I4.pE
      rw [HN.out, if_pos HC1.out]
    go_wp2_with (first | (refine wpList_load_h4 _ rfl (O + 1) h4z nilS nilS rfl HZ2.out rfl ?_) | (refine wpList_store_h4 (.tmp 2) _ rfl rfl O h4z h4z nilS nilS nilS nilS rfl rfl rfl rfl HR2.out rfl ?_))
    intro wE hRE kE
    have HRE : Hid (H4At wE O h4z nilS nilS) := hRE
    have HFE : Hid (Below w.heap.size w wE) := (bel2).trans (kE.below (fun q e => by have e' : q = O := e; have := HO.out; omega) (bel2).size)
    clear hRE kE
    go_wp2
    (try simp only [Exit.inBlock, Exit.then])
    refine bodyPost_ret (results_h4_tmp rfl _ _ O h4z nilS nilS rfl HRE.out) rfl ?_
    exact ⟨HFE.out, .inl ⟨by rw [HE.out]; decide, by rw [HE.out]; rfl⟩⟩
  have c1' : ¬ (65535 : Int) < (n : Int) := by omega
  have HC1 : Hid (¬ 65535 < n) := c1
  by_cases c2 : n < 20
  · have c2' : (n : Int) < 20 := by omega
    have HC2 : Hid (n < 20) := c2
    clear c2
    have HE : Hid (I4.pE bs = 60) := by
      show I4.pE bs = 60
      unfold I4.pE
      rw [HN.out, if_neg HC1.out, if_pos HC2.out]
    go_wp2_with (first | (refine wpList_load_h4 _ rfl (O + 1) h4z nilS nilS rfl HZ2.out rfl ?_) | (refine wpList_store_h4 (.tmp 2) _ rfl rfl O h4z h4z nilS nilS nilS nilS rfl rfl rfl rfl HR2.out rfl ?_))
    intro wE hRE kE
    have HRE : Hid (H4At wE O h4z nilS nilS) := hRE
    have HFE : Hid (Below w.heap.size w wE) := (bel2).trans (kE.below (fun q e => by have e' : q = O := e; have := HO.out; omega) (bel2).size)
    clear hRE kE
    go_wp2
    (try simp only [Exit.inBlock, Exit.then])
    refine bodyPost_ret (results_h4_tmp rfl _ _ O h4z nilS nilS rfl HRE.out) rfl ?_
    exact ⟨HFE.out, .inl ⟨by rw [HE.out]; decide, by rw [HE.out]; rfl⟩⟩
  have c2' : ¬ (n : Int) < 20 := by omega
  have HC2 : Hid (¬ n < 20) := c2
  have hn20 : 20 ≤ n := by omega
  obtain ⟨b, off, rfl, hc⟩ := seg_at HSEG0.out 0 (by rw [HN.out]; omega)
  have hbl : b < w.heap.size := World.block_lt_of_cell? w _ (hc 0 (by rw [HN.out]; omega))
  have HC : Hid (∀ A, Below w.heap.size w A → ∀ j, j < n → A.cell? ⟨b, off + j, none⟩ = some (.int .u8 ((bs.getD j 0 : Nat) : Int))) := fun A hA j hj => (hA.cell (p := ⟨b, off + j, none⟩) hbl).trans (hc j (by rw [HN.out]; exact hj))
  have G : Hid (∀ j, bs.getD j 0 < 256) := fun j => I4.getD_lt bs H256.out j
  have HTWO : Hid (∀ (A : World) (i : Nat), Below w.heap.size w A → i + 1 < n → Calls Tryd.prog 68 #[.slice (some ⟨b, off, none⟩) n cap, .int .i64 i] A fun e w' => e = .returned (.int .i64 ((256 * bs.getD i 0 + bs.getD (i + 1) 0 : Nat) : Int)) ∧ Below A.heap.size A w') := fun A i hA hi => two_any _ n cap i bs A HN.out (HSEG.out A hA) H256.out hi hm
  have HADR : Hid (∀ (A : World) (i : Nat), Below w.heap.size w A → i + 4 ≤ n → Calls Tryd.prog 70 #[.slice (some ⟨b, off, none⟩) n cap, .int .i64 i] A fun e w' => e = .returned (.agg (ipCells 4 (I4.ipx bs i))) ∧ Below A.heap.size A w') := fun A i hA hi => raddress_any _ n cap i bs A HN.out (HSEG.out A hA) H256.out hi hm
  have e0 : w2.cell? ⟨b, off, none⟩ = some (.int .u8 ((bs.getD 0 0 : Nat) : Int)) := HC.out w2 bel2 0 (by omega)
  have g0 := G.out 0
  obtain ⟨b0, hb0⟩ : ∃ x, x = bs.getD 0 0 := ⟨_, rfl⟩
  rw [← hb0] at e0 g0
  have HB0 : Hid (b0 = bs.getD 0 0) := hb0
  have n0 : (0 : Int) < (n : Int) := by omega
  have wm : IntKind.i64.wrap ((b0 : Int) % 16 * 4) = (b0 : Int) % 16 * 4 := by rw [IntKind.wrap_i64]; omega
  obtain ⟨hd, hhd⟩ : ∃ hd, hd = I4.hdL bs := ⟨_, rfl⟩
  have HHD : Hid ((b0 : Int) % 16 * 4 = (hd : Int)) := by show _ = _; rw [hhd]; unfold I4.hdL; rw [← hb0]; omega
  have HHDE : Hid (hd = I4.hdL bs) := hhd
  have lhd : hd ≤ 60 := by rw [hhd]; exact (I4.hdL_le bs).1
  obtain ⟨tl, htl⟩ : ∃ tl, tl = I4.tlL bs := ⟨_, rfl⟩
  have HTLE : Hid (tl = I4.tlL bs) := htl
  have HT2 : Hid (256 * bs.getD 2 0 + bs.getD (2 + 1) 0 = tl) := by show 256 * bs.getD 2 0 + bs.getD 3 0 = tl; rw [htl]; unfold I4.tlL; omega
  have ltl : tl ≤ 65535 := by have h1 : 256 * bs.getD 2 0 + bs.getD 3 0 = tl := HT2.out; have h2 := G.out 2; have h3 := G.out 3; omega
  have Q2 : Hid _ := HTWO.out w2 2 bel2 (by omega)
  rw [HT2.out] at Q2
  clear c1 c2 hc hbl hb0 hhd htl
  go_upto_region 7 with fail
  rw [HHD.out]
  go_wp2_with fail
  refine Calls.mono Q2.out ?_
  rintro e w3 ⟨rfl, hb3⟩
  have bel3 := bthen bel2 hb3
  have HZ3 : Hid (H4At w3 (O + 1) h4z nilS nilS) := H4At.below HZ2.out hb3
  have HR3 : Hid (H4At w3 O h4z nilS nilS) := H4At.below HR2.out hb3
  have e0 : w3.cell? ⟨b, off, none⟩ = some (.int .u8 (b0 : Int)) := by rw [HB0.out]; exact HC.out w3 bel3 0 (by omega)
  clear Q2 hb3 HZ2 HR2 bel2 wm
  by_cases v4 : b0 / 16 = 4
  case neg =>
    have q : ((b0 : Int) / 16 != 4) = true := by rw [bne_iff_ne]; omega
    have HV4 : Hid (¬ b0 / 16 = 4) := v4
    clear v4
    have HE : Hid (I4.pE bs = 61) := by
      show I4.pE bs = 61
      unfold I4.pE
      rw [HN.out, if_neg HC1.out, if_neg HC2.out, ← HB0.out, if_pos HV4.out]
    go_wp2_with (first | (refine wpList_load_h4 _ rfl (O + 1) h4z nilS nilS rfl HZ3.out rfl ?_) | (refine wpList_store_h4 (.tmp 2) _ rfl rfl O h4z h4z nilS nilS nilS nilS rfl rfl rfl rfl HR3.out rfl ?_))
    intro wE hRE kE
    have HRE : Hid (H4At wE O h4z nilS nilS) := hRE
    have HFE : Hid (Below w.heap.size w wE) := (bel3).trans (kE.below (fun q e => by have e' : q = O := e; have := HO.out; omega) (bel3).size)
    clear hRE kE
    go_wp2
    (try simp only [Exit.inBlock, Exit.then])
    refine bodyPost_ret (results_h4_tmp rfl _ _ O h4z nilS nilS rfl HRE.out) rfl ?_
    exact ⟨HFE.out, .inl ⟨by rw [HE.out]; decide, by rw [HE.out]; rfl⟩⟩
  have q4 : ((b0 : Int) / 16 != 4) = false := by rw [bne_eq_false_iff_eq]; omega
  have HV4 : Hid (¬ b0 / 16 ≠ 4) := by show ¬ _; omega
  clear v4
  by_cases d1 : hd < 20
  · have q : (hd : Int) < 20 := by omega
    have HD1 : Hid (hd < 20 ∨ n < hd) := .inl d1
    clear d1
    have HE : Hid (I4.pE bs = 62) := by
      show I4.pE bs = 62
      unfold I4.pE
      rw [HN.out, if_neg HC1.out, if_neg HC2.out, ← HB0.out, if_neg HV4.out, ← HHDE.out, if_pos HD1.out]
    go_wp2_with (first | (refine wpList_load_h4 _ rfl (O + 1) h4z nilS nilS rfl HZ3.out rfl ?_) | (refine wpList_store_h4 (.tmp 2) _ rfl rfl O h4z h4z nilS nilS nilS nilS rfl rfl rfl rfl HR3.out rfl ?_))
    intro wE hRE kE
    have HRE : Hid (H4At wE O h4z nilS nilS) := hRE
    have HFE : Hid (Below w.heap.size w wE) := (bel3).trans (kE.below (fun q e => by have e' : q = O := e; have := HO.out; omega) (bel3).size)
    clear hRE kE
    go_wp2
    (try simp only [Exit.inBlock, Exit.then])
    refine bodyPost_ret (results_h4_tmp rfl _ _ O h4z nilS nilS rfl HRE.out) rfl ?_
    exact ⟨HFE.out, .inl ⟨by rw [HE.out]; decide, by rw [HE.out]; rfl⟩⟩
  have q5 : ¬ (hd : Int) < 20 := by omega
  by_cases d2 : n < hd
  · have q : (n : Int) < (hd : Int) := by omega
    have HD1 : Hid (hd < 20 ∨ n < hd) := .inr d2
    clear d1 d2
    have HE : Hid (I4.pE bs = 62) := by
      show I4.pE bs = 62
      unfold I4.pE
      rw [HN.out, if_neg HC1.out, if_neg HC2.out, ← HB0.out, if_neg HV4.out, ← HHDE.out, if_pos HD1.out]
    go_wp2_with (first | (refine wpList_load_h4 _ rfl (O + 1) h4z nilS nilS rfl HZ3.out rfl ?_) | (refine wpList_store_h4 (.tmp 2) _ rfl rfl O h4z h4z nilS nilS nilS nilS rfl rfl rfl rfl HR3.out rfl ?_))
    intro wE hRE kE
    have HRE : Hid (H4At wE O h4z nilS nilS) := hRE
    have HFE : Hid (Below w.heap.size w wE) := (bel3).trans (kE.below (fun q e => by have e' : q = O := e; have := HO.out; omega) (bel3).size)
    clear hRE kE
    go_wp2
    (try simp only [Exit.inBlock, Exit.then])
    refine bodyPost_ret (results_h4_tmp rfl _ _ O h4z nilS nilS rfl HRE.out) rfl ?_
    exact ⟨HFE.out, .inl ⟨by rw [HE.out]; decide, by rw [HE.out]; rfl⟩⟩
  have q6 : ¬ (n : Int) < (hd : Int) := by omega
  have HD1 : Hid (¬ (hd < 20 ∨ n < hd)) := by show ¬ _; omega
  by_cases t1 : tl < hd
  · have q : (tl : Int) < (hd : Int) := by omega
    have HD2 : Hid (tl < hd ∨ n < tl) := .inl t1
    clear d1 d2 t1
    have HE : Hid (I4.pE bs = 63) := by
      show I4.pE bs = 63
      unfold I4.pE
      rw [HN.out, if_neg HC1.out, if_neg HC2.out, ← HB0.out, if_neg HV4.out, ← HHDE.out, if_neg HD1.out, ← HTLE.out, if_pos HD2.out]
    go_wp2_with (first | (refine wpList_load_h4 _ rfl (O + 1) h4z nilS nilS rfl HZ3.out rfl ?_) | (refine wpList_store_h4 (.tmp 2) _ rfl rfl O h4z h4z nilS nilS nilS nilS rfl rfl rfl rfl HR3.out rfl ?_))
    intro wE hRE kE
    have HRE : Hid (H4At wE O h4z nilS nilS) := hRE
    have HFE : Hid (Below w.heap.size w wE) := (bel3).trans (kE.below (fun q e => by have e' : q = O := e; have := HO.out; omega) (bel3).size)
    clear hRE kE
    go_wp2
    (try simp only [Exit.inBlock, Exit.then])
    refine bodyPost_ret (results_h4_tmp rfl _ _ O h4z nilS nilS rfl HRE.out) rfl ?_
    exact ⟨HFE.out, .inl ⟨by rw [HE.out]; decide, by rw [HE.out]; rfl⟩⟩
  have q7 : ¬ (tl : Int) < (hd : Int) := by omega
  by_cases t2 : n < tl
  · have q : (n : Int) < (tl : Int) := by omega
    have HD2 : Hid (tl < hd ∨ n < tl) := .inr t2
    clear d1 d2 t1 t2
    have HE : Hid (I4.pE bs = 63) := by
      show I4.pE bs = 63
      unfold I4.pE
      rw [HN.out, if_neg HC1.out, if_neg HC2.out, ← HB0.out, if_neg HV4.out, ← HHDE.out, if_neg HD1.out, ← HTLE.out, if_pos HD2.out]
    go_wp2_with (first | (refine wpList_load_h4 _ rfl (O + 1) h4z nilS nilS rfl HZ3.out rfl ?_) | (refine wpList_store_h4 (.tmp 2) _ rfl rfl O h4z h4z nilS nilS nilS nilS rfl rfl rfl rfl HR3.out rfl ?_))
    intro wE hRE kE
    have HRE : Hid (H4At wE O h4z nilS nilS) := hRE
    have HFE : Hid (Below w.heap.size w wE) := (bel3).trans (kE.below (fun q e => by have e' : q = O := e; have := HO.out; omega) (bel3).size)
    clear hRE kE
    go_wp2
    (try simp only [Exit.inBlock, Exit.then])
    refine bodyPost_ret (results_h4_tmp rfl _ _ O h4z nilS nilS rfl HRE.out) rfl ?_
    exact ⟨HFE.out, .inl ⟨by rw [HE.out]; decide, by rw [HE.out]; rfl⟩⟩
  have q8 : ¬ (n : Int) < (tl : Int) := by omega
  have HD2 : Hid (¬ (tl < hd ∨ n < tl)) := by show ¬ _; omega
  have l1 : 20 ≤ hd := by omega
  have l2 : hd ≤ tl := by omega
  have l3 : tl ≤ n := by omega
  have s0 : (0 : Int) ≤ (hd : Int) := by omega
  have s1 : (hd : Int) ≤ (cap : Int) := by omega
  have s2 : ((hd : Int)).toNat = hd := by omega
  have HSHD : Hid (∀ A, Below w.heap.size w A → Seg .u8 A (some ⟨b, off, none⟩) (toI (bs.take hd))) := fun A hA => by
    have h1 := (HSEG.out A hA).part0 hd (by rw [toI_len, HN.out]; omega)
    rw [toI_take] at h1
    exact h1
  have QG : Hid _ := rgood_one w3 w3.heap.size (some ⟨b, off, none⟩) hd cap (bs.take hd) rfl (by rw [List.length_take, HN.out]; omega) ⟨HSHD.out w3 bel3, fun x hx => H256.out x (List.mem_of_mem_take hx), by show (bs.take hd).length ≤ cap; rw [List.length_take, HN.out]; omega, HCAP.out.2⟩ (by omega)
  obtain ⟨gd, hgd⟩ : ∃ gd, gd = decide (S.fold (S.wv false (bs.take hd)) = 65535) := ⟨_, rfl⟩
  rw [← hgd] at QG
  have HGD : Hid (gd = decide (S.fold (S.wv false (bs.take hd)) = 65535)) := hgd
  clear d1 d2 t1 t2 hgd
  go_wp2_with fail
  refine Calls.mono QG.out ?_
  rintro e w4 ⟨rfl, hb4⟩
  have bel4 := bthen bel3 hb4
  have HZ4 : Hid (H4At w4 (O + 1) h4z nilS nilS) := H4At.below HZ3.out hb4
  have HR4 : Hid (H4At w4 O h4z nilS nilS) := H4At.below HR3.out hb4
  clear QG hb4 HZ3 HR3 bel3 e0 q4 q5 q6 q7 q8 c1' c2'
  cases gd with
  | false =>
    have HG : Hid (S.fold (S.wv false (bs.take hd)) ≠ 65535) := of_decide_eq_false HGD.out.symm
    have HE : Hid (I4.pE bs = 64) := by
      show I4.pE bs = 64
      unfold I4.pE
      rw [HN.out, if_neg HC1.out, if_neg HC2.out, ← HB0.out, if_neg HV4.out, ← HHDE.out, if_neg HD1.out, ← HTLE.out, if_neg HD2.out, if_pos HG.out]
    go_wp2_with (first | (refine wpList_load_h4 _ rfl (O + 1) h4z nilS nilS rfl HZ4.out rfl ?_) | (refine wpList_store_h4 (.tmp 2) _ rfl rfl O h4z h4z nilS nilS nilS nilS rfl rfl rfl rfl HR4.out rfl ?_))
    intro wE hRE kE
    have HRE : Hid (H4At wE O h4z nilS nilS) := hRE
    have HFE : Hid (Below w.heap.size w wE) := (bel4).trans (kE.below (fun q e => by have e' : q = O := e; have := HO.out; omega) (bel4).size)
    clear hRE kE
    go_wp2
    (try simp only [Exit.inBlock, Exit.then])
    refine bodyPost_ret (results_h4_tmp rfl _ _ O h4z nilS nilS rfl HRE.out) rfl ?_
    exact ⟨HFE.out, .inl ⟨by rw [HE.out]; decide, by rw [HE.out]; rfl⟩⟩
  | true =>
  have HG : Hid (¬ S.fold (S.wv false (bs.take hd)) ≠ 65535) := by have := of_decide_eq_true HGD.out.symm; show ¬ _; omega
  obtain ⟨ob, hob⟩ : ∃ ob, ob = I4.optB bs := ⟨_, rfl⟩
  have HOB : Hid (ob = I4.optB bs) := hob
  have HOBL : Hid (ob.length = hd - 20) := by show _ = _; rw [hob]; unfold I4.optB; rw [List.length_take, List.length_drop, HN.out, ← HHDE.out]; omega
  have HOB256 : Hid (∀ x ∈ ob, x < 256) := by rw [hob]; exact I4.optB_256 H256.out
  obtain ⟨ad, had⟩ : ∃ ad, (if cap = 20 then some (⟨b, off, none⟩ : Addr) else some ⟨b, off + 20, none⟩) = ad := ⟨_, rfl⟩
  have HSOB : Hid (Seg .u8 w4 ad (toI ob)) := by
    show Seg .u8 w4 ad (toI ob)
    by_cases e : cap = 20
    · left
      have : ob = [] := List.eq_nil_of_length_eq_zero (by rw [HOBL.out]; omega)
      rw [this]; rfl
    · rw [← had, if_neg e, hob]
      have h1 := (HSEG.out w4 bel4).part 20 (hd - 20) (by rw [toI_len, HN.out]; omega)
      rw [toI_drop, toI_take] at h1
      unfold I4.optB
      rw [← HHDE.out]
      simpa [Addr.add] using h1
  have p1 : (20 : Int) ≤ (hd : Int) := by omega
  obtain ⟨hn2, hhn2⟩ : ∃ x, hd - 20 = x := ⟨_, rfl⟩
  have HHN2 : Hid (hd - 20 = hn2) := hhn2
  have QO : Hid _ := ropts_any ad hn2 (cap - 20) ob w4 (by rw [HOBL.out]; exact hhn2) HSOB.out HOB256.out (by omega)
  have hcap20 : 20 ≤ cap := by omega
  clear hob
  go_wp2_with fail
  refine Calls.mono QO.out ?_
  rintro e w5 ⟨hb5, hro⟩
  have bel5 := bthen bel4 hb5
  have HZ5 : Hid (H4At w5 (O + 1) h4z nilS nilS) := H4At.below HZ4.out hb5
  have HR5 : Hid (H4At w5 O h4z nilS nilS) := H4At.below HR4.out hb5
  rcases hro with ⟨_, ops, lb, lc, ps, hsc, rfl, hpl, hpv, hpo, how, hpa⟩ | ⟨hno, rfl⟩
  case inr =>
    have HNO : Hid (scan (I4.optB bs) 0 = none) := by
      rcases hno with h1 | h1
      · rw [HOBL.out] at h1; omega
      · rw [HOB.out] at h1; exact h1
    clear hno hb5 QO had hhn2
    have HE : Hid (I4.pE bs = 65) := by
      show I4.pE bs = 65
      unfold I4.pE
      rw [HN.out, if_neg HC1.out, if_neg HC2.out, ← HB0.out, if_neg HV4.out, ← HHDE.out, if_neg HD1.out, ← HTLE.out, if_neg HD2.out, if_neg HG.out, if_pos HNO.out]
    go_wp2_with (first | (refine wpList_load_h4 _ rfl (O + 1) h4z nilS nilS rfl HZ5.out rfl ?_) | (refine wpList_store_h4 (.tmp 2) _ rfl rfl O h4z h4z nilS nilS nilS nilS rfl rfl rfl rfl HR5.out rfl ?_))
    intro wE hRE kE
    have HRE : Hid (H4At wE O h4z nilS nilS) := hRE
    have HFE : Hid (Below w.heap.size w wE) := (bel5).trans (kE.below (fun q e => by have e' : q = O := e; have := HO.out; omega) (bel5).size)
    clear hRE kE
    go_wp2
    (try simp only [Exit.inBlock, Exit.then])
    refine bodyPost_ret (results_h4_tmp rfl _ _ O h4z nilS nilS rfl HRE.out) rfl ?_
    exact ⟨HFE.out, .inl ⟨by rw [HE.out]; decide, by rw [HE.out]; rfl⟩⟩
  have hla : ∀ x, lb = some x → w4.heap.size ≤ x.block := fun x hx => (own_blk how x hx).1
  obtain ⟨K0, hK⟩ : ∃ K, K = ops.length := ⟨_, rfl⟩
  rw [← hK] at hpl ⊢
  have HSC : Hid (scan (I4.optB bs) 0 = some ops) := by rw [← HOB.out]; exact hsc
  have HOPS : Hid (I4.opsB bs = ops) := by show _ = _; unfold I4.opsB; rw [HSC.out]; rfl
  have hKs : K0 ≤ 40 := by
    obtain ⟨_, h1⟩ := I4.scan_in ob 0 ops hsc (Nat.zero_le _) HOB256.out
    have key : ∀ l : List I4.OV, l.length ≤ (I4.flatO l).length := by
      intro l
      induction l with
      | nil => simp [I4.flatO]
      | cons o l ih => rw [I4.flatO_cons, List.length_cons]; omega
    have h2 := key (ops.map (I4.ov ob))
    rw [List.length_map] at h2
    rw [HOBL.out] at h1
    omega
  have HPL : Hid (ps.length = K0) := hpl
  have HPV : Hid (vals ps = (I4.pH bs).os) := by
    show vals ps = (I4.opsB bs).map (fun o => I4.intO (I4.ov (I4.optB bs) o))
    rw [HOPS.out, ← HOB.out]
    exact hpv
  have HPO : Hid (OptsAt w5 lb ps) := hpo
  have HPOL : Hid (∀ (A B : World), OptsAt B lb ps → Ch (fun q => q = O) B A → OptsAt A lb ps) := by
    intro A B hB hc
    refine hB.ch hc (fun x hx e => ?_) (fun q hq x hx e => ?_)
    · have e' : x.block = O := e
      have h1 := hla x hx
      have h2 := HR4.out.lt
      omega
    · have e' : x.block = O := e
      have h1 := hpa q hq x hx
      have h2 := HR4.out.lt
      omega
  have HB6 : Hid (256 * bs.getD 6 0 + bs.getD (6 + 1) 0 ≤ 65535) := by have h1 := G.out 6; have h2 := G.out 7; show 256 * bs.getD 6 0 + bs.getD 7 0 ≤ 65535; omega
  have Q6 : Hid _ := HTWO.out w5 6 bel5 (by omega)
  obtain ⟨wd, hwd⟩ : ∃ wd, wd = 256 * bs.getD 6 0 + bs.getD (6 + 1) 0 := ⟨_, rfl⟩
  rw [← hwd] at Q6 HB6
  have lwd : wd ≤ 65535 := HB6.out
  have HWD : Hid (wd = 256 * bs.getD 6 0 + bs.getD 7 0) := hwd
  clear hsc hpl hpv hpo hK hla hpa how hb5 QO had hhn2 hwd HZ4 HR4 bel4 HB6
  go_wp2_with fail
  refine Calls.mono Q6.out ?_
  rintro e wp ⟨rfl, hb6⟩
  have bel6 := bthen bel5 hb6
  have HZ6 : Hid (H4At wp (O + 1) h4z nilS nilS) := H4At.below HZ5.out hb6
  have HR6 : Hid (H4At wp O h4z nilS nilS) := H4At.below HR5.out hb6
  have HPO6 : Hid (OptsAt wp lb ps) := HPO.out.old hb6
  have BW : Hid (∀ A, Below wp.heap.size wp A → Below w.heap.size w A) := fun A hA => bthen bel6 hA
  have F1 : Hid (∀ A, Below wp.heap.size wp A → A.cell? ⟨b, off + 1, none⟩ = some (.int .u8 ((bs.getD 1 0 : Nat) : Int))) := fun A hA => HC.out A (BW.out A hA) 1 (by omega)
  have F8 : Hid (∀ A, Below wp.heap.size wp A → A.cell? ⟨b, off + 8, none⟩ = some (.int .u8 ((bs.getD 8 0 : Nat) : Int))) := fun A hA => HC.out A (BW.out A hA) 8 (by omega)
  have F9 : Hid (∀ A, Below wp.heap.size wp A → A.cell? ⟨b, off + 9, none⟩ = some (.int .u8 ((bs.getD 9 0 : Nat) : Int))) := fun A hA => HC.out A (BW.out A hA) 9 (by omega)
  obtain ⟨x1, hx1⟩ : ∃ x, x = bs.getD 1 0 := ⟨_, rfl⟩
  obtain ⟨x8, hx8⟩ : ∃ x, x = bs.getD 8 0 := ⟨_, rfl⟩
  obtain ⟨x9, hx9⟩ : ∃ x, x = bs.getD 9 0 := ⟨_, rfl⟩
  obtain ⟨x4, hx4⟩ : ∃ x, x = 256 * bs.getD 4 0 + bs.getD (4 + 1) 0 := ⟨_, rfl⟩
  rw [← hx1] at F1
  rw [← hx8] at F8
  rw [← hx9] at F9
  have lx : x1 < 256 ∧ x8 < 256 ∧ x9 < 256 := by rw [hx1, hx8, hx9]; exact ⟨G.out 1, G.out 8, G.out 9⟩
  obtain ⟨lx1, lx8, lx9⟩ := lx
  have Q4 : Hid (∀ A, Below wp.heap.size wp A → Calls Tryd.prog 68 #[.slice (some ⟨b, off, none⟩) n cap, .int .i64 4] A fun e w' => e = .returned (.int .i64 (x4 : Int)) ∧ Below A.heap.size A w') := fun A hA => by have h1 := HTWO.out A 4 (BW.out A hA) (by omega); rw [← hx4] at h1; exact h1
  have QS : Hid (∀ A, Below wp.heap.size wp A → Calls Tryd.prog 70 #[.slice (some ⟨b, off, none⟩) n cap, .int .i64 12] A fun e w' => e = .returned (.agg (ipCells 4 (I4.ipx bs 12))) ∧ Below A.heap.size A w') := fun A hA => HADR.out A 12 (BW.out A hA) (by omega)
  have QD : Hid (∀ A, Below wp.heap.size wp A → Calls Tryd.prog 70 #[.slice (some ⟨b, off, none⟩) n cap, .int .i64 16] A fun e w' => e = .returned (.agg (ipCells 4 (I4.ipx bs 16))) ∧ Below A.heap.size A w') := fun A hA => HADR.out A 16 (BW.out A hA) (by omega)
  obtain ⟨sS, hsS⟩ : ∃ s, s = I4.ipx bs 12 := ⟨_, rfl⟩
  obtain ⟨sD, hsD⟩ : ∃ s, s = I4.ipx bs 16 := ⟨_, rfl⟩
  rw [← hsS] at QS
  rw [← hsD] at QD
  obtain ⟨dd, hdd⟩ : ∃ dd, dd = I4.dataB bs := ⟨_, rfl⟩
  obtain ⟨dn, hdn⟩ : ∃ dn, tl - hd = dn := ⟨_, rfl⟩
  have HDDE : Hid (dd = I4.dataB bs) := hdd
  have HDNE : Hid (tl - hd = dn) := hdn
  have HDL : Hid (dd.length = dn) := by show _ = _; rw [hdd]; unfold I4.dataB; rw [List.length_take, List.length_drop, HN.out, ← HHDE.out, ← HTLE.out]; omega
  have ldn : dn ≤ 65535 := by omega
  have HD256 : Hid (∀ x ∈ dd, x < 256) := by rw [hdd]; exact fun x hx => H256.out x (List.mem_of_mem_drop (List.mem_of_mem_take hx))
  obtain ⟨ad2, had2⟩ : ∃ ad, (if cap = hd then some (⟨b, off, none⟩ : Addr) else some ⟨b, off + hd, none⟩) = ad := ⟨_, rfl⟩
  have QC : Hid (∀ A, Below wp.heap.size wp A → Calls Tryd.prog 27 #[.slice ad2 dn (cap - hd)] A fun e w' => ∃ v, e = .returned v ∧ w'.ownsRow A.heap.size 5 1 v dn ((toI dd).map (Value.int .u8)) ∧ Below A.heap.size A w') := by
    intro A hA
    refine copied_any ad2 dn (cap - hd) dd A HDL.out ?_ (by omega)
    by_cases e : cap = hd
    · left
      have : dd = [] := List.eq_nil_of_length_eq_zero (by rw [HDL.out]; omega)
      rw [this]; rfl
    · rw [← had2, if_neg e, hdd]
      have h1 := (HSEG.out A (BW.out A hA)).part hd (tl - hd) (by rw [toI_len, HN.out]; omega)
      rw [toI_drop, toI_take] at h1
      unfold I4.dataB
      rw [← HHDE.out, ← HTLE.out]
      by_cases h0 : hd = 0
      · omega
      · simpa [Addr.add, h0] using h1
  have HEQ : Hid (I4.Eqv (I4.pH bs) ⟨(x1 : Int), (x4 : Int), ((wd : Int) / 16384 % 2 == 1), ((wd : Int) / 8192 % 2 == 1), (wd : Int) % 8192 * 8, (x8 : Int), (x9 : Int), 4, sS, 4, sD, (I4.pH bs).os, dd⟩) := by
    have g6 := G.out 6
    have g7 := G.out 7
    have hw := HWD.out
    refine ⟨by rw [hx1]; rfl, ?_, ?_, ?_, ?_, by rw [hx8]; rfl, by rw [hx9]; rfl, rfl, fun i _ => by rw [hsS]; rfl, rfl, fun i _ => by rw [hsD]; rfl, rfl, by rw [hdd]; rfl⟩
    · have hx4' : x4 = 256 * bs.getD 4 0 + bs.getD 5 0 := hx4
      show ((bs.getD 4 0 * 256 + bs.getD 5 0 : Nat) : Int) = (x4 : Int); rw [hx4']; omega
    · show decide (bs.getD 6 0 / 64 % 2 = 1) = ((wd : Int) / 16384 % 2 == 1)
      rw [Bool.eq_iff_iff, decide_eq_true_eq, beq_iff_eq]; omega
    · show decide (bs.getD 6 0 / 32 % 2 = 1) = ((wd : Int) / 8192 % 2 == 1)
      rw [Bool.eq_iff_iff, decide_eq_true_eq, beq_iff_eq]; omega
    · show (((bs.getD 6 0 % 32 * 256 + bs.getD 7 0) * 8 : Nat) : Int) = (wd : Int) % 8192 * 8; omega
  obtain ⟨bd, hbd⟩ : ∃ bd, bd = ((wd : Int) / 16384 % 2 == 1) := ⟨_, rfl⟩
  obtain ⟨bm, hbm⟩ : ∃ bm, bm = ((wd : Int) / 8192 % 2 == 1) := ⟨_, rfl⟩
  obtain ⟨bo, hbo⟩ : ∃ bo, bo = (wd : Int) % 8192 * 8 := ⟨_, rfl⟩
  rw [← hbd, ← hbm, ← hbo] at HEQ
  have w8 : IntKind.i64.wrap ((wd : Int) % 8192 * 8) = bo := by rw [IntKind.wrap_i64, hbo]; omega
  have lbo : 0 ≤ bo ∧ bo ≤ 65528 := by rw [hbo]; omega
  have HBD : Hid (((wd : Int) / 16384 % 2 == 1) = bd) := hbd.symm
  have HBM : Hid (((wd : Int) / 8192 % 2 == 1) = bm) := hbm.symm
  have hbd' := hbd.symm
  have hbm' := hbm.symm
  have m1 : (hd : Int) ≤ (tl : Int) := by omega
  have m2 : (tl : Int) ≤ (cap : Int) := by omega
  have m3 : ((tl : Int)).toNat = tl := by omega
  have i1 : (1 : Int) < (n : Int) := by omega
  have i8 : (8 : Int) < (n : Int) := by omega
  have i9 : (9 : Int) < (n : Int) := by omega
  have hdc : hd ≤ cap := by omega
  clear Q6 hb6 hx1 hx8 hx9 hx4 hsS hsD hdd hbd hbm hbo HZ5 HR5 HPO bel5 p1 n0
  go_wp2
  refine MixH.start (fun x => Below wp.heap.size wp x) (by kernel_rfl) ?_
  obtain ⟨wA, hwA⟩ : ∃ wA, wA = wp.drew := ⟨_, rfl⟩
  have hS : Below wp.heap.size wp wA := by rw [hwA]; exact (Below.refl _ _).drew
  rw [← hwA]
  clear hwA
  refine MixH.takes [true, true, false, false, true, false, true, true, true, true, true, true, true, true, true, true, true, true, true, false, false, true, true, false, false, true, false, true, false, true, true, true, true, true] 13 (by kernel_rfl) (by kernel_rfl) (by decide) (by kernel_rfl) hS (fun K hK => ?_)
  simp only [Mix.pick]
  repeat (go_big_quiet_step (fail))
  refine wpQuiet_nil (hK _ ?_)
  clear hK K
  refine MixH.take 12 2 _ (.int .u8 (x1 : Int)) rfl (by kernel_rfl) (by kernel_rfl) (by kernel_rfl) (by kernel_rfl) (yields_u8 (.tmp 79) rfl ⟨b, off + 1, none⟩ _ rfl rfl F1.out) hS (fun a' ha => ?_)
  simp only [Act.put, List.setIfInBounds_toArray, List.set_cons_succ, List.set_cons_zero] at ha
  subst ha
  refine MixH.take 11 19 _ (.int .u8 (x8 : Int)) rfl (by kernel_rfl) (by kernel_rfl) (by kernel_rfl) (by kernel_rfl) (yields_u8 (.tmp 96) rfl ⟨b, off + 8, none⟩ _ rfl rfl F8.out) hS (fun a' ha => ?_)
  simp only [Act.put, List.setIfInBounds_toArray, List.set_cons_succ, List.set_cons_zero] at ha
  subst ha
  refine MixH.take 10 23 _ (.int .u8 (x9 : Int)) rfl (by kernel_rfl) (by kernel_rfl) (by kernel_rfl) (by kernel_rfl) (yields_u8 (.tmp 100) rfl ⟨b, off + 9, none⟩ _ rfl rfl F9.out) hS (fun a' ha => ?_)
  simp only [Act.put, List.setIfInBounds_toArray, List.set_cons_succ, List.set_cons_zero] at ha
  subst ha
  refine MixH.takes [false, false, false, true, false, false, false, false, false, false, false, false, false, false, false, false, false, false, false, false, true, false, false, false, true] 7 (by kernel_rfl) (by kernel_rfl) (by decide) (by kernel_rfl) hS (fun K hK => ?_)
  simp only [Mix.pick]
  repeat (go_big_quiet_step (fail))
  refine wpQuiet_nil (hK _ ?_)
  clear hK K
  clear w8 hbd' hbm' had2 hdn
  refine MixH.pair [false, false, false, false, false, true] [false, false, false, false, false, false, false, false, false, false, false, false, false, false, false, false, false, false, false, false, false, false, false, false, false, false, false, false, false, false, false, false, false, false, false, false, true] 6 5 36 _ _ rfl rfl rfl rfl (by kernel_rfl) (by kernel_rfl) (fun K hK => ?_) (fun K hK => ?_)
  · simp only [Mix.pick]
    go_wp2_with fail
    refine Calls.mono (Q4.out wA hS) ?_
    rintro e wC1 ⟨rfl, hbN⟩
    replace hS : Below wp.heap.size wp wC1 := hS.trans (hbN.mono hS.size)
    clear hbN
    go_wp2
    refine ⟨rfl, hK _ _ hS ?_⟩
    clear hK K
    refine MixH.pair [false, false, false, false, false, false, false, false, false, false, false, false, false, false, false, false, false, false, false, false, false, false, false, false, false, false, true] [false, false, false, false, false, false, false, false, false, false, false, false, false, false, false, false, false, false, false, false, false, false, false, false, false, false, false, false, false, false, false, false, false, false, false, false, true] 5 26 36 _ _ rfl rfl rfl rfl (by kernel_rfl) (by kernel_rfl) (fun K hK => ?_) (fun K hK => ?_)
    · simp only [Mix.pick]
      go_wp2_with fail
      refine Calls.mono (QS.out wC1 hS) ?_
      rintro e wC2 ⟨rfl, hbN⟩
      replace hS : Below wp.heap.size wp wC2 := hS.trans (hbN.mono hS.size)
      clear hbN
      go_wp2
      refine ⟨rfl, hK _ _ hS ?_⟩
      clear hK K
      refine MixH.pair [false, false, false, false, false, false, false, false, false, false, false, false, false, false, false, false, false, false, false, false, false, false, false, false, false, false, false, false, true] [false, false, false, false, false, false, false, false, false, false, false, false, false, false, false, false, false, false, false, false, false, false, false, false, false, false, false, false, false, false, false, false, false, false, false, false, true] 4 28 36 _ _ rfl rfl rfl rfl (by kernel_rfl) (by kernel_rfl) (fun K hK => ?_) (fun K hK => ?_)
      · simp only [Mix.pick]
        go_wp2_with fail
        refine Calls.mono (QD.out wC2 hS) ?_
        rintro e wC3 ⟨rfl, hbN⟩
        replace hS : Below wp.heap.size wp wC3 := hS.trans (hbN.mono hS.size)
        clear hbN
        go_wp2
        refine ⟨rfl, hK _ _ hS ?_⟩
        clear hK K
        refine MixH.pair [false, false, false, false, false, false, false, false, false, false, false, false, false, false, false, false, false, false, false, false, false, false, false, false, false, false, false, false, false, false, false, false, false, false, true] [false, false, false, false, false, false, false, false, false, false, false, false, false, false, false, false, false, false, false, false, false, false, false, false, false, false, false, false, false, false, false, false, false, false, false, false, true] 3 34 36 _ _ rfl rfl rfl rfl (by kernel_rfl) (by kernel_rfl) (fun K hK => ?_) (fun K hK => ?_)
        · simp only [Mix.pick]
          go_wp2_with fail
          refine Calls.mono (QC.out wC3 hS) ?_
          rintro e wC4 ⟨vv, rfl, hov, hbN⟩
          obtain ⟨va, vc, rfl⟩ := owns_shape hov
          have HOV : Hid (wC4.ownsRow wp.heap.size 5 1 (.slice va dn vc) dn ((toI dd).map (Value.int .u8))) := owns_mono hov hS.size
          clear hov
          replace hS : Below wp.heap.size wp wC4 := hS.trans (hbN.mono hS.size)
          clear hbN
          go_wp2
          refine ⟨rfl, hK _ _ hS ?_⟩
          clear hK K
          refine MixH.take 2 35 _ (.agg (h4C ⟨(x1 : Int), (x4 : Int), bd, bm, bo, (x8 : Int), (x9 : Int), 4, sS, 4, sD, [], []⟩ (.slice lb K0 lc) (.slice va dn vc))) rfl (by kernel_rfl) (by kernel_rfl) (by kernel_rfl) (by kernel_rfl) (yields_build_h4s _ _ _ _ _ _ _ _ _ _ _ rfl _ _ _ _ _ _ _ _ _ _ _ _ _ _ _ rfl rfl rfl rfl rfl rfl rfl rfl rfl rfl rfl rfl) hS (fun a' ha => ?_)
          simp only [Act.put, List.setIfInBounds_toArray, List.set_cons_succ, List.set_cons_zero] at ha
          subst ha
          refine MixH.one [false, false, false, false, false, false, false, false, false, false, false, false, false, false, false, false, false, false, false, false, false, false, false, false, false, false, false, false, false, false, false, false, false, false, false, false, true] 1 36 _ rfl rfl (by kernel_rfl) (by kernel_rfl) (fun K hK => ?_)
          simp only [Mix.pick]
          have hSn : Below wp.heap.size wp (wC4.alloc (.cells (h4C h4z nilS nilS) 28)) := hS.alloc hS.size _
          refine wpList_alloc_h4 rfl rfl ?_
          obtain ⟨wC5, hwn⟩ : ∃ x, x = wC4.alloc (.cells (h4C h4z nilS nilS) 28) := ⟨_, rfl⟩
          obtain ⟨O3, hO3⟩ : ∃ x, x = wC4.heap.size := ⟨_, rfl⟩
          have HXwC5 : Hid (H4At wC5 O3 h4z nilS nilS) := by rw [hwn, hO3]; exact h4At_new _ _ _ _
          have HO3 : Hid (wp.heap.size ≤ O3) := by rw [hO3]; exact hS.size
          have HOV2 : Hid (wC5.ownsRow wp.heap.size 5 1 (.slice va dn vc) dn ((toI dd).map (Value.int .u8))) := by rw [hwn]; exact HOV.out.alloc _
          clear HOV
          have HOV := HOV2
          clear HOV2
          rw [← hwn] at hSn ⊢
          rw [← hO3]
          clear hS hwn hO3
          have hS := hSn
          clear hSn
          go_wp2
          refine ⟨rfl, hK _ _ hS ?_⟩
          clear hK K
          refine MixH.one [false, false, false, false, false, false, false, false, false, false, false, false, false, false, false, false, false, false, false, false, false, false, false, false, false, false, false, false, false, false, false, false, false, false, false, false, false, true] 0 37 _ rfl rfl (by kernel_rfl) (by kernel_rfl) (fun K hK => ?_)
          simp only [Mix.pick]
          refine wpList_store_h4 (.tmp 11) (.tmp 113) rfl rfl O3 h4z ⟨(x1 : Int), (x4 : Int), bd, bm, bo, (x8 : Int), (x9 : Int), 4, sS, 4, sD, [], []⟩ nilS nilS (.slice lb K0 lc) (.slice va dn vc) rfl rfl rfl rfl HXwC5.out rfl ?_
          intro wS hPS kS
          have HPS : Hid (H4At wS O3 ⟨(x1 : Int), (x4 : Int), bd, bm, bo, (x8 : Int), (x9 : Int), 4, sS, 4, sD, [], []⟩ (.slice lb K0 lc) (.slice va dn vc)) := hPS
          have HOVS : Hid (wS.ownsRow wp.heap.size 5 1 (.slice va dn vc) dn ((toI dd).map (Value.int .u8))) := kS.owns HOV.out (fun q hq e => own_ne HOV.out HXwC5.out (by decide) q hq e)
          replace hS : Below wp.heap.size wp wS := hS.trans (kS.below (fun q e => by have e' : q = O3 := e; have := HO3.out; omega) hS.size)
          clear hPS kS HOV HXwC5
          go_wp2
          refine ⟨rfl, hK _ _ hS ?_⟩
          clear hK K
          refine MixH.done (by kernel_rfl) ?_
          have HZS : Hid (H4At wS (O + 1) h4z nilS nilS) := H4At.below HZ6.out hS
          have HRS : Hid (H4At wS O h4z nilS nilS) := H4At.below HR6.out hS
          have belS := BW.out wS hS
          have f3 : wS.cell? ⟨O3, 3, none⟩ = some (.bool bm) := HPS.out.c3
          have f4 : wS.cell? ⟨O3, 4, none⟩ = some (.int .i64 bo) := HPS.out.c4
          have f10 : wS.cell? ⟨O3, 42, none⟩ = some (.slice va dn vc) := HPS.out.c42
          have HFR : Hid (I4.fragOk bm bo dn = I4.fragOk (I4.pH bs).mf (I4.pH bs).off (tl - hd)) := by show _ = _; rw [HEQ.out.mf, HEQ.out.off, HDNE.out]
          have QF : Hid _ := frag_any bm bo dn wS lbo.1 lbo.2 (by omega)
          go_wp2_with fail
          refine Calls.mono QF.out ?_
          rintro e wF ⟨rfl, rfl⟩
          cases bf : I4.fragOk bm bo dn with
          | false =>
            have HFN : Hid ((!I4.fragOk (I4.pH bs).mf (I4.pH bs).off (tl - hd)) = true) := by show _ = _; rw [← HFR.out, bf]; rfl
            have HNN : Hid (¬ scan (I4.optB bs) 0 = none) := by show ¬ _; rw [HSC.out]; simp
            have HE : Hid (I4.pE bs = 66) := by
              show I4.pE bs = 66
              unfold I4.pE
              rw [HN.out, if_neg HC1.out, if_neg HC2.out, ← HB0.out, if_neg HV4.out, ← HHDE.out, if_neg HD1.out, ← HTLE.out, if_neg HD2.out, if_neg HG.out, if_neg HNN.out, if_pos HFN.out]
            go_wp2_with (first | (refine wpList_load_h4 _ rfl (O + 1) h4z nilS nilS rfl HZS.out rfl ?_) | (refine wpList_store_h4 (.tmp 2) _ rfl rfl O h4z h4z nilS nilS nilS nilS rfl rfl rfl rfl HRS.out rfl ?_))
            intro wE hRE kE
            have HRE : Hid (H4At wE O h4z nilS nilS) := hRE
            have HFE : Hid (Below w.heap.size w wE) := (belS).trans (kE.below (fun q e => by have e' : q = O := e; have := HO.out; omega) (belS).size)
            clear hRE kE
            go_wp2
            (try simp only [Exit.inBlock, Exit.then])
            refine bodyPost_ret (results_h4_tmp rfl _ _ O h4z nilS nilS rfl HRE.out) rfl ?_
            exact ⟨HFE.out, .inl ⟨by rw [HE.out]; decide, by rw [HE.out]; rfl⟩⟩
          | true =>
            have HTK : Hid (I4.pE bs = 0) := by
              show _ = _
              rw [I4.pE_zero]
              refine ⟨by rw [HN.out]; have := HC1.out; omega, by rw [← HB0.out]; have := HV4.out; omega, by rw [← HHDE.out]; exact l1, by rw [← HHDE.out, ← HTLE.out]; exact l2, by rw [← HTLE.out, HN.out]; exact l3, by rw [← HHDE.out]; have := HG.out; omega, by rw [HSC.out, HOPS.out], ?_⟩
              rw [← HTLE.out, ← HHDE.out, ← HFR.out]; exact bf
            go_wp2_with (first | (refine wpList_load_h4 _ rfl O3 ⟨(x1 : Int), (x4 : Int), bd, bm, bo, (x8 : Int), (x9 : Int), 4, sS, 4, sD, [], []⟩ (.slice lb K0 lc) (.slice va dn vc) rfl HPS.out rfl ?_) | (refine wpList_store_h4 (.tmp 2) _ rfl rfl O h4z ⟨(x1 : Int), (x4 : Int), bd, bm, bo, (x8 : Int), (x9 : Int), 4, sS, 4, sD, [], []⟩ nilS nilS (.slice lb K0 lc) (.slice va dn vc) rfl rfl rfl rfl HRS.out rfl ?_))
            intro wE hRE kE
            have HRE : Hid (H4At wE O ⟨(x1 : Int), (x4 : Int), bd, bm, bo, (x8 : Int), (x9 : Int), 4, sS, 4, sD, [], []⟩ (.slice lb K0 lc) (.slice va dn vc)) := hRE
            have bE : Below wS.heap.size wS wS := Below.refl _ _
            have HFE : Hid (Below w.heap.size w wE) := belS.trans (kE.below (fun q e => by have e' : q = O := e; have := HO.out; omega) belS.size)
            have HOKE : Hid (H4Ok wE (I4.pH bs) lb K0 lc ps va dn vc) := by
              have hos : OptsAt wS lb ps := HPO6.out.old hS
              have hoE : wE.ownsRow wp.heap.size 5 1 (.slice va dn vc) dn ((toI dd).map (Value.int .u8)) := kE.owns HOVS.out (fun q hq e => by have e' : q = O := e; have h1 := (HOVS.out.lt q hq).1; have h2 := HR6.out.lt; omega)
              have hopE : OptsAt wE lb ps := HPOL.out wE wS hos kE
              obtain ⟨hsg, hc1, hc2⟩ := owns_at hoE
              have g := G.out
              refine ⟨?_, ?_, HPL.out, hopE, HPV.out.symm, by omega, by rw [HEQ.out.data]; exact HDL.out, by rw [HEQ.out.data]; exact hsg, by rw [HEQ.out.data]; exact HD256.out, hc1, hc2, by omega⟩
              · intro i _; show I4.ipx bs 12 i < 256; unfold I4.ipx; split; exact g _; omega
              · intro i _; show I4.ipx bs 16 i < 256; unfold I4.ipx; split; exact g _; omega
            clear hRE kE
            go_wp2
            (try simp only [Exit.inBlock, Exit.then])
            refine bodyPost_ret (results_h4_tmp rfl _ _ O ⟨(x1 : Int), (x4 : Int), bd, bm, bo, (x8 : Int), (x9 : Int), 4, sS, 4, sD, [], []⟩ (.slice lb K0 lc) (.slice va dn vc) rfl HRE.out) rfl ?_
            have hce := h4C_eqv HEQ.out (.slice lb K0 lc) (.slice va dn vc)
            exact ⟨HFE.out, .inr ⟨HTK.out, lb, K0, lc, ps, va, dn, vc, by rw [hce]; rfl, HOKE.out⟩⟩
        · simp only [Mix.pick]
          have hSn : Below wp.heap.size wp (wC3.alloc (.cells (h4C h4z nilS nilS) 28)) := hS.alloc hS.size _
          refine wpList_alloc_h4 rfl rfl ?_
          obtain ⟨wC6, hwn⟩ : ∃ x, x = wC3.alloc (.cells (h4C h4z nilS nilS) 28) := ⟨_, rfl⟩
          obtain ⟨O3, hO3⟩ : ∃ x, x = wC3.heap.size := ⟨_, rfl⟩
          have HXwC6 : Hid (H4At wC6 O3 h4z nilS nilS) := by rw [hwn, hO3]; exact h4At_new _ _ _ _
          have HO3 : Hid (wp.heap.size ≤ O3) := by rw [hO3]; exact hS.size
          rw [← hwn] at hSn ⊢
          rw [← hO3]
          clear hS hwn hO3
          have hS := hSn
          clear hSn
          go_wp2
          refine ⟨rfl, hK _ _ hS ?_⟩
          clear hK K
          refine MixH.one [false, false, false, false, false, false, false, false, false, false, false, false, false, false, false, false, false, false, false, false, false, false, false, false, false, false, false, false, false, false, false, false, false, false, true] 2 34 _ rfl rfl (by kernel_rfl) (by kernel_rfl) (fun K hK => ?_)
          simp only [Mix.pick]
          go_wp2_with fail
          refine Calls.mono (QC.out wC6 hS) ?_
          rintro e wC7 ⟨vv, rfl, hov, hbN⟩
          obtain ⟨va, vc, rfl⟩ := owns_shape hov
          have HOV : Hid (wC7.ownsRow wp.heap.size 5 1 (.slice va dn vc) dn ((toI dd).map (Value.int .u8))) := owns_mono hov hS.size
          clear hov
          have HXwC7 : Hid (H4At wC7 O3 h4z nilS nilS) := H4At.below HXwC6.out hbN
          replace hS : Below wp.heap.size wp wC7 := hS.trans (hbN.mono hS.size)
          clear hbN
          go_wp2
          refine ⟨rfl, hK _ _ hS ?_⟩
          clear hK K
          refine MixH.take 1 35 _ (.agg (h4C ⟨(x1 : Int), (x4 : Int), bd, bm, bo, (x8 : Int), (x9 : Int), 4, sS, 4, sD, [], []⟩ (.slice lb K0 lc) (.slice va dn vc))) rfl (by kernel_rfl) (by kernel_rfl) (by kernel_rfl) (by kernel_rfl) (yields_build_h4s _ _ _ _ _ _ _ _ _ _ _ rfl _ _ _ _ _ _ _ _ _ _ _ _ _ _ _ rfl rfl rfl rfl rfl rfl rfl rfl rfl rfl rfl rfl) hS (fun a' ha => ?_)
          simp only [Act.put, List.setIfInBounds_toArray, List.set_cons_succ, List.set_cons_zero] at ha
          subst ha
          refine MixH.one [false, false, false, false, false, false, false, false, false, false, false, false, false, false, false, false, false, false, false, false, false, false, false, false, false, false, false, false, false, false, false, false, false, false, false, false, false, true] 0 37 _ rfl rfl (by kernel_rfl) (by kernel_rfl) (fun K hK => ?_)
          simp only [Mix.pick]
          refine wpList_store_h4 (.tmp 11) (.tmp 113) rfl rfl O3 h4z ⟨(x1 : Int), (x4 : Int), bd, bm, bo, (x8 : Int), (x9 : Int), 4, sS, 4, sD, [], []⟩ nilS nilS (.slice lb K0 lc) (.slice va dn vc) rfl rfl rfl rfl HXwC7.out rfl ?_
          intro wS hPS kS
          have HPS : Hid (H4At wS O3 ⟨(x1 : Int), (x4 : Int), bd, bm, bo, (x8 : Int), (x9 : Int), 4, sS, 4, sD, [], []⟩ (.slice lb K0 lc) (.slice va dn vc)) := hPS
          have HOVS : Hid (wS.ownsRow wp.heap.size 5 1 (.slice va dn vc) dn ((toI dd).map (Value.int .u8))) := kS.owns HOV.out (fun q hq e => own_ne HOV.out HXwC7.out (by decide) q hq e)
          replace hS : Below wp.heap.size wp wS := hS.trans (kS.below (fun q e => by have e' : q = O3 := e; have := HO3.out; omega) hS.size)
          clear hPS kS HOV HXwC7
          go_wp2
          refine ⟨rfl, hK _ _ hS ?_⟩
          clear hK K
          refine MixH.done (by kernel_rfl) ?_
          have HZS : Hid (H4At wS (O + 1) h4z nilS nilS) := H4At.below HZ6.out hS
          have HRS : Hid (H4At wS O h4z nilS nilS) := H4At.below HR6.out hS
          have belS := BW.out wS hS
          have f3 : wS.cell? ⟨O3, 3, none⟩ = some (.bool bm) := HPS.out.c3
          have f4 : wS.cell? ⟨O3, 4, none⟩ = some (.int .i64 bo) := HPS.out.c4
          have f10 : wS.cell? ⟨O3, 42, none⟩ = some (.slice va dn vc) := HPS.out.c42
          have HFR : Hid (I4.fragOk bm bo dn = I4.fragOk (I4.pH bs).mf (I4.pH bs).off (tl - hd)) := by show _ = _; rw [HEQ.out.mf, HEQ.out.off, HDNE.out]
          have QF : Hid _ := frag_any bm bo dn wS lbo.1 lbo.2 (by omega)
          go_wp2_with fail
          refine Calls.mono QF.out ?_
          rintro e wF ⟨rfl, rfl⟩
          cases bf : I4.fragOk bm bo dn with
          | false =>
            have HFN : Hid ((!I4.fragOk (I4.pH bs).mf (I4.pH bs).off (tl - hd)) = true) := by show _ = _; rw [← HFR.out, bf]; rfl
            have HNN : Hid (¬ scan (I4.optB bs) 0 = none) := by show ¬ _; rw [HSC.out]; simp
            have HE : Hid (I4.pE bs = 66) := by
              show I4.pE bs = 66
              unfold I4.pE
              rw [HN.out, if_neg HC1.out, if_neg HC2.out, ← HB0.out, if_neg HV4.out, ← HHDE.out, if_neg HD1.out, ← HTLE.out, if_neg HD2.out, if_neg HG.out, if_neg HNN.out, if_pos HFN.out]
            go_wp2_with (first | (refine wpList_load_h4 _ rfl (O + 1) h4z nilS nilS rfl HZS.out rfl ?_) | (refine wpList_store_h4 (.tmp 2) _ rfl rfl O h4z h4z nilS nilS nilS nilS rfl rfl rfl rfl HRS.out rfl ?_))
            intro wE hRE kE
            have HRE : Hid (H4At wE O h4z nilS nilS) := hRE
            have HFE : Hid (Below w.heap.size w wE) := (belS).trans (kE.below (fun q e => by have e' : q = O := e; have := HO.out; omega) (belS).size)
            clear hRE kE
            go_wp2
            (try simp only [Exit.inBlock, Exit.then])
            refine bodyPost_ret (results_h4_tmp rfl _ _ O h4z nilS nilS rfl HRE.out) rfl ?_
            exact ⟨HFE.out, .inl ⟨by rw [HE.out]; decide, by rw [HE.out]; rfl⟩⟩
          | true =>
            have HTK : Hid (I4.pE bs = 0) := by
              show _ = _
              rw [I4.pE_zero]
              refine ⟨by rw [HN.out]; have := HC1.out; omega, by rw [← HB0.out]; have := HV4.out; omega, by rw [← HHDE.out]; exact l1, by rw [← HHDE.out, ← HTLE.out]; exact l2, by rw [← HTLE.out, HN.out]; exact l3, by rw [← HHDE.out]; have := HG.out; omega, by rw [HSC.out, HOPS.out], ?_⟩
              rw [← HTLE.out, ← HHDE.out, ← HFR.out]; exact bf
            go_wp2_with (first | (refine wpList_load_h4 _ rfl O3 ⟨(x1 : Int), (x4 : Int), bd, bm, bo, (x8 : Int), (x9 : Int), 4, sS, 4, sD, [], []⟩ (.slice lb K0 lc) (.slice va dn vc) rfl HPS.out rfl ?_) | (refine wpList_store_h4 (.tmp 2) _ rfl rfl O h4z ⟨(x1 : Int), (x4 : Int), bd, bm, bo, (x8 : Int), (x9 : Int), 4, sS, 4, sD, [], []⟩ nilS nilS (.slice lb K0 lc) (.slice va dn vc) rfl rfl rfl rfl HRS.out rfl ?_))
            intro wE hRE kE
            have HRE : Hid (H4At wE O ⟨(x1 : Int), (x4 : Int), bd, bm, bo, (x8 : Int), (x9 : Int), 4, sS, 4, sD, [], []⟩ (.slice lb K0 lc) (.slice va dn vc)) := hRE
            have bE : Below wS.heap.size wS wS := Below.refl _ _
            have HFE : Hid (Below w.heap.size w wE) := belS.trans (kE.below (fun q e => by have e' : q = O := e; have := HO.out; omega) belS.size)
            have HOKE : Hid (H4Ok wE (I4.pH bs) lb K0 lc ps va dn vc) := by
              have hos : OptsAt wS lb ps := HPO6.out.old hS
              have hoE : wE.ownsRow wp.heap.size 5 1 (.slice va dn vc) dn ((toI dd).map (Value.int .u8)) := kE.owns HOVS.out (fun q hq e => by have e' : q = O := e; have h1 := (HOVS.out.lt q hq).1; have h2 := HR6.out.lt; omega)
              have hopE : OptsAt wE lb ps := HPOL.out wE wS hos kE
              obtain ⟨hsg, hc1, hc2⟩ := owns_at hoE
              have g := G.out
              refine ⟨?_, ?_, HPL.out, hopE, HPV.out.symm, by omega, by rw [HEQ.out.data]; exact HDL.out, by rw [HEQ.out.data]; exact hsg, by rw [HEQ.out.data]; exact HD256.out, hc1, hc2, by omega⟩
              · intro i _; show I4.ipx bs 12 i < 256; unfold I4.ipx; split; exact g _; omega
              · intro i _; show I4.ipx bs 16 i < 256; unfold I4.ipx; split; exact g _; omega
            clear hRE kE
            go_wp2
            (try simp only [Exit.inBlock, Exit.then])
            refine bodyPost_ret (results_h4_tmp rfl _ _ O ⟨(x1 : Int), (x4 : Int), bd, bm, bo, (x8 : Int), (x9 : Int), 4, sS, 4, sD, [], []⟩ (.slice lb K0 lc) (.slice va dn vc) rfl HRE.out) rfl ?_
            have hce := h4C_eqv HEQ.out (.slice lb K0 lc) (.slice va dn vc)
            exact ⟨HFE.out, .inr ⟨HTK.out, lb, K0, lc, ps, va, dn, vc, by rw [hce]; rfl, HOKE.out⟩⟩
      · simp only [Mix.pick]
        have hSn : Below wp.heap.size wp (wC2.alloc (.cells (h4C h4z nilS nilS) 28)) := hS.alloc hS.size _
        refine wpList_alloc_h4 rfl rfl ?_
        obtain ⟨wC8, hwn⟩ : ∃ x, x = wC2.alloc (.cells (h4C h4z nilS nilS) 28) := ⟨_, rfl⟩
        obtain ⟨O3, hO3⟩ : ∃ x, x = wC2.heap.size := ⟨_, rfl⟩
        have HXwC8 : Hid (H4At wC8 O3 h4z nilS nilS) := by rw [hwn, hO3]; exact h4At_new _ _ _ _
        have HO3 : Hid (wp.heap.size ≤ O3) := by rw [hO3]; exact hS.size
        rw [← hwn] at hSn ⊢
        rw [← hO3]
        clear hS hwn hO3
        have hS := hSn
        clear hSn
        go_wp2
        refine ⟨rfl, hK _ _ hS ?_⟩
        clear hK K
        refine MixH.one [false, false, false, false, false, false, false, false, false, false, false, false, false, false, false, false, false, false, false, false, false, false, false, false, false, false, false, false, true] 3 28 _ rfl rfl (by kernel_rfl) (by kernel_rfl) (fun K hK => ?_)
        simp only [Mix.pick]
        go_wp2_with fail
        refine Calls.mono (QD.out wC8 hS) ?_
        rintro e wC9 ⟨rfl, hbN⟩
        have HXwC9 : Hid (H4At wC9 O3 h4z nilS nilS) := H4At.below HXwC8.out hbN
        replace hS : Below wp.heap.size wp wC9 := hS.trans (hbN.mono hS.size)
        clear hbN
        go_wp2
        refine ⟨rfl, hK _ _ hS ?_⟩
        clear hK K
        refine MixH.one [false, false, false, false, false, false, false, false, false, false, false, false, false, false, false, false, false, false, false, false, false, false, false, false, false, false, false, false, false, false, false, false, false, false, true] 2 34 _ rfl rfl (by kernel_rfl) (by kernel_rfl) (fun K hK => ?_)
        simp only [Mix.pick]
        go_wp2_with fail
        refine Calls.mono (QC.out wC9 hS) ?_
        rintro e wC10 ⟨vv, rfl, hov, hbN⟩
        obtain ⟨va, vc, rfl⟩ := owns_shape hov
        have HOV : Hid (wC10.ownsRow wp.heap.size 5 1 (.slice va dn vc) dn ((toI dd).map (Value.int .u8))) := owns_mono hov hS.size
        clear hov
        have HXwC10 : Hid (H4At wC10 O3 h4z nilS nilS) := H4At.below HXwC9.out hbN
        replace hS : Below wp.heap.size wp wC10 := hS.trans (hbN.mono hS.size)
        clear hbN
        go_wp2
        refine ⟨rfl, hK _ _ hS ?_⟩
        clear hK K
        refine MixH.take 1 35 _ (.agg (h4C ⟨(x1 : Int), (x4 : Int), bd, bm, bo, (x8 : Int), (x9 : Int), 4, sS, 4, sD, [], []⟩ (.slice lb K0 lc) (.slice va dn vc))) rfl (by kernel_rfl) (by kernel_rfl) (by kernel_rfl) (by kernel_rfl) (yields_build_h4s _ _ _ _ _ _ _ _ _ _ _ rfl _ _ _ _ _ _ _ _ _ _ _ _ _ _ _ rfl rfl rfl rfl rfl rfl rfl rfl rfl rfl rfl rfl) hS (fun a' ha => ?_)
        simp only [Act.put, List.setIfInBounds_toArray, List.set_cons_succ, List.set_cons_zero] at ha
        subst ha
        refine MixH.one [false, false, false, false, false, false, false, false, false, false, false, false, false, false, false, false, false, false, false, false, false, false, false, false, false, false, false, false, false, false, false, false, false, false, false, false, false, true] 0 37 _ rfl rfl (by kernel_rfl) (by kernel_rfl) (fun K hK => ?_)
        simp only [Mix.pick]
        refine wpList_store_h4 (.tmp 11) (.tmp 113) rfl rfl O3 h4z ⟨(x1 : Int), (x4 : Int), bd, bm, bo, (x8 : Int), (x9 : Int), 4, sS, 4, sD, [], []⟩ nilS nilS (.slice lb K0 lc) (.slice va dn vc) rfl rfl rfl rfl HXwC10.out rfl ?_
        intro wS hPS kS
        have HPS : Hid (H4At wS O3 ⟨(x1 : Int), (x4 : Int), bd, bm, bo, (x8 : Int), (x9 : Int), 4, sS, 4, sD, [], []⟩ (.slice lb K0 lc) (.slice va dn vc)) := hPS
        have HOVS : Hid (wS.ownsRow wp.heap.size 5 1 (.slice va dn vc) dn ((toI dd).map (Value.int .u8))) := kS.owns HOV.out (fun q hq e => own_ne HOV.out HXwC10.out (by decide) q hq e)
        replace hS : Below wp.heap.size wp wS := hS.trans (kS.below (fun q e => by have e' : q = O3 := e; have := HO3.out; omega) hS.size)
        clear hPS kS HOV HXwC10
        go_wp2
        refine ⟨rfl, hK _ _ hS ?_⟩
        clear hK K
        refine MixH.done (by kernel_rfl) ?_
        have HZS : Hid (H4At wS (O + 1) h4z nilS nilS) := H4At.below HZ6.out hS
        have HRS : Hid (H4At wS O h4z nilS nilS) := H4At.below HR6.out hS
        have belS := BW.out wS hS
        have f3 : wS.cell? ⟨O3, 3, none⟩ = some (.bool bm) := HPS.out.c3
        have f4 : wS.cell? ⟨O3, 4, none⟩ = some (.int .i64 bo) := HPS.out.c4
        have f10 : wS.cell? ⟨O3, 42, none⟩ = some (.slice va dn vc) := HPS.out.c42
        have HFR : Hid (I4.fragOk bm bo dn = I4.fragOk (I4.pH bs).mf (I4.pH bs).off (tl - hd)) := by show _ = _; rw [HEQ.out.mf, HEQ.out.off, HDNE.out]
        have QF : Hid _ := frag_any bm bo dn wS lbo.1 lbo.2 (by omega)
        go_wp2_with fail
        refine Calls.mono QF.out ?_
        rintro e wF ⟨rfl, rfl⟩
        cases bf : I4.fragOk bm bo dn with
        | false =>
          have HFN : Hid ((!I4.fragOk (I4.pH bs).mf (I4.pH bs).off (tl - hd)) = true) := by show _ = _; rw [← HFR.out, bf]; rfl
          have HNN : Hid (¬ scan (I4.optB bs) 0 = none) := by show ¬ _; rw [HSC.out]; simp
          have HE : Hid (I4.pE bs = 66) := by
            show I4.pE bs = 66
            unfold I4.pE
            rw [HN.out, if_neg HC1.out, if_neg HC2.out, ← HB0.out, if_neg HV4.out, ← HHDE.out, if_neg HD1.out, ← HTLE.out, if_neg HD2.out, if_neg HG.out, if_neg HNN.out, if_pos HFN.out]
          go_wp2_with (first | (refine wpList_load_h4 _ rfl (O + 1) h4z nilS nilS rfl HZS.out rfl ?_) | (refine wpList_store_h4 (.tmp 2) _ rfl rfl O h4z h4z nilS nilS nilS nilS rfl rfl rfl rfl HRS.out rfl ?_))
          intro wE hRE kE
          have HRE : Hid (H4At wE O h4z nilS nilS) := hRE
          have HFE : Hid (Below w.heap.size w wE) := (belS).trans (kE.below (fun q e => by have e' : q = O := e; have := HO.out; omega) (belS).size)
          clear hRE kE
          go_wp2
          (try simp only [Exit.inBlock, Exit.then])
          refine bodyPost_ret (results_h4_tmp rfl _ _ O h4z nilS nilS rfl HRE.out) rfl ?_
          exact ⟨HFE.out, .inl ⟨by rw [HE.out]; decide, by rw [HE.out]; rfl⟩⟩
        | true =>
          have HTK : Hid (I4.pE bs = 0) := by
            show _ = _
            rw [I4.pE_zero]
            refine ⟨by rw [HN.out]; have := HC1.out; omega, by rw [← HB0.out]; have := HV4.out; omega, by rw [← HHDE.out]; exact l1, by rw [← HHDE.out, ← HTLE.out]; exact l2, by rw [← HTLE.out, HN.out]; exact l3, by rw [← HHDE.out]; have := HG.out; omega, by rw [HSC.out, HOPS.out], ?_⟩
            rw [← HTLE.out, ← HHDE.out, ← HFR.out]; exact bf
          go_wp2_with (first | (refine wpList_load_h4 _ rfl O3 ⟨(x1 : Int), (x4 : Int), bd, bm, bo, (x8 : Int), (x9 : Int), 4, sS, 4, sD, [], []⟩ (.slice lb K0 lc) (.slice va dn vc) rfl HPS.out rfl ?_) | (refine wpList_store_h4 (.tmp 2) _ rfl rfl O h4z ⟨(x1 : Int), (x4 : Int), bd, bm, bo, (x8 : Int), (x9 : Int), 4, sS, 4, sD, [], []⟩ nilS nilS (.slice lb K0 lc) (.slice va dn vc) rfl rfl rfl rfl HRS.out rfl ?_))
          intro wE hRE kE
          have HRE : Hid (H4At wE O ⟨(x1 : Int), (x4 : Int), bd, bm, bo, (x8 : Int), (x9 : Int), 4, sS, 4, sD, [], []⟩ (.slice lb K0 lc) (.slice va dn vc)) := hRE
          have bE : Below wS.heap.size wS wS := Below.refl _ _
          have HFE : Hid (Below w.heap.size w wE) := belS.trans (kE.below (fun q e => by have e' : q = O := e; have := HO.out; omega) belS.size)
          have HOKE : Hid (H4Ok wE (I4.pH bs) lb K0 lc ps va dn vc) := by
            have hos : OptsAt wS lb ps := HPO6.out.old hS
            have hoE : wE.ownsRow wp.heap.size 5 1 (.slice va dn vc) dn ((toI dd).map (Value.int .u8)) := kE.owns HOVS.out (fun q hq e => by have e' : q = O := e; have h1 := (HOVS.out.lt q hq).1; have h2 := HR6.out.lt; omega)
            have hopE : OptsAt wE lb ps := HPOL.out wE wS hos kE
            obtain ⟨hsg, hc1, hc2⟩ := owns_at hoE
            have g := G.out
            refine ⟨?_, ?_, HPL.out, hopE, HPV.out.symm, by omega, by rw [HEQ.out.data]; exact HDL.out, by rw [HEQ.out.data]; exact hsg, by rw [HEQ.out.data]; exact HD256.out, hc1, hc2, by omega⟩
            · intro i _; show I4.ipx bs 12 i < 256; unfold I4.ipx; split; exact g _; omega
            · intro i _; show I4.ipx bs 16 i < 256; unfold I4.ipx; split; exact g _; omega
          clear hRE kE
          go_wp2
          (try simp only [Exit.inBlock, Exit.then])
          refine bodyPost_ret (results_h4_tmp rfl _ _ O ⟨(x1 : Int), (x4 : Int), bd, bm, bo, (x8 : Int), (x9 : Int), 4, sS, 4, sD, [], []⟩ (.slice lb K0 lc) (.slice va dn vc) rfl HRE.out) rfl ?_
          have hce := h4C_eqv HEQ.out (.slice lb K0 lc) (.slice va dn vc)
          exact ⟨HFE.out, .inr ⟨HTK.out, lb, K0, lc, ps, va, dn, vc, by rw [hce]; rfl, HOKE.out⟩⟩
    · simp only [Mix.pick]
      have hSn : Below wp.heap.size wp (wC1.alloc (.cells (h4C h4z nilS nilS) 28)) := hS.alloc hS.size _
      refine wpList_alloc_h4 rfl rfl ?_
      obtain ⟨wC11, hwn⟩ : ∃ x, x = wC1.alloc (.cells (h4C h4z nilS nilS) 28) := ⟨_, rfl⟩
      obtain ⟨O3, hO3⟩ : ∃ x, x = wC1.heap.size := ⟨_, rfl⟩
      have HXwC11 : Hid (H4At wC11 O3 h4z nilS nilS) := by rw [hwn, hO3]; exact h4At_new _ _ _ _
      have HO3 : Hid (wp.heap.size ≤ O3) := by rw [hO3]; exact hS.size
      rw [← hwn] at hSn ⊢
      rw [← hO3]
      clear hS hwn hO3
      have hS := hSn
      clear hSn
      go_wp2
      refine ⟨rfl, hK _ _ hS ?_⟩
      clear hK K
      refine MixH.one [false, false, false, false, false, false, false, false, false, false, false, false, false, false, false, false, false, false, false, false, false, false, false, false, false, false, true] 4 26 _ rfl rfl (by kernel_rfl) (by kernel_rfl) (fun K hK => ?_)
      simp only [Mix.pick]
      go_wp2_with fail
      refine Calls.mono (QS.out wC11 hS) ?_
      rintro e wC12 ⟨rfl, hbN⟩
      have HXwC12 : Hid (H4At wC12 O3 h4z nilS nilS) := H4At.below HXwC11.out hbN
      replace hS : Below wp.heap.size wp wC12 := hS.trans (hbN.mono hS.size)
      clear hbN
      go_wp2
      refine ⟨rfl, hK _ _ hS ?_⟩
      clear hK K
      refine MixH.one [false, false, false, false, false, false, false, false, false, false, false, false, false, false, false, false, false, false, false, false, false, false, false, false, false, false, false, false, true] 3 28 _ rfl rfl (by kernel_rfl) (by kernel_rfl) (fun K hK => ?_)
      simp only [Mix.pick]
      go_wp2_with fail
      refine Calls.mono (QD.out wC12 hS) ?_
      rintro e wC13 ⟨rfl, hbN⟩
      have HXwC13 : Hid (H4At wC13 O3 h4z nilS nilS) := H4At.below HXwC12.out hbN
      replace hS : Below wp.heap.size wp wC13 := hS.trans (hbN.mono hS.size)
      clear hbN
      go_wp2
      refine ⟨rfl, hK _ _ hS ?_⟩
      clear hK K
      refine MixH.one [false, false, false, false, false, false, false, false, false, false, false, false, false, false, false, false, false, false, false, false, false, false, false, false, false, false, false, false, false, false, false, false, false, false, true] 2 34 _ rfl rfl (by kernel_rfl) (by kernel_rfl) (fun K hK => ?_)
      simp only [Mix.pick]
      go_wp2_with fail
      refine Calls.mono (QC.out wC13 hS) ?_
      rintro e wC14 ⟨vv, rfl, hov, hbN⟩
      obtain ⟨va, vc, rfl⟩ := owns_shape hov
      have HOV : Hid (wC14.ownsRow wp.heap.size 5 1 (.slice va dn vc) dn ((toI dd).map (Value.int .u8))) := owns_mono hov hS.size
      clear hov
      have HXwC14 : Hid (H4At wC14 O3 h4z nilS nilS) := H4At.below HXwC13.out hbN
      replace hS : Below wp.heap.size wp wC14 := hS.trans (hbN.mono hS.size)
      clear hbN
      go_wp2
      refine ⟨rfl, hK _ _ hS ?_⟩
      clear hK K
      refine MixH.take 1 35 _ (.agg (h4C ⟨(x1 : Int), (x4 : Int), bd, bm, bo, (x8 : Int), (x9 : Int), 4, sS, 4, sD, [], []⟩ (.slice lb K0 lc) (.slice va dn vc))) rfl (by kernel_rfl) (by kernel_rfl) (by kernel_rfl) (by kernel_rfl) (yields_build_h4s _ _ _ _ _ _ _ _ _ _ _ rfl _ _ _ _ _ _ _ _ _ _ _ _ _ _ _ rfl rfl rfl rfl rfl rfl rfl rfl rfl rfl rfl rfl) hS (fun a' ha => ?_)
      simp only [Act.put, List.setIfInBounds_toArray, List.set_cons_succ, List.set_cons_zero] at ha
      subst ha
      refine MixH.one [false, false, false, false, false, false, false, false, false, false, false, false, false, false, false, false, false, false, false, false, false, false, false, false, false, false, false, false, false, false, false, false, false, false, false, false, false, true] 0 37 _ rfl rfl (by kernel_rfl) (by kernel_rfl) (fun K hK => ?_)
      simp only [Mix.pick]
      refine wpList_store_h4 (.tmp 11) (.tmp 113) rfl rfl O3 h4z ⟨(x1 : Int), (x4 : Int), bd, bm, bo, (x8 : Int), (x9 : Int), 4, sS, 4, sD, [], []⟩ nilS nilS (.slice lb K0 lc) (.slice va dn vc) rfl rfl rfl rfl HXwC14.out rfl ?_
      intro wS hPS kS
      have HPS : Hid (H4At wS O3 ⟨(x1 : Int), (x4 : Int), bd, bm, bo, (x8 : Int), (x9 : Int), 4, sS, 4, sD, [], []⟩ (.slice lb K0 lc) (.slice va dn vc)) := hPS
      have HOVS : Hid (wS.ownsRow wp.heap.size 5 1 (.slice va dn vc) dn ((toI dd).map (Value.int .u8))) := kS.owns HOV.out (fun q hq e => own_ne HOV.out HXwC14.out (by decide) q hq e)
      replace hS : Below wp.heap.size wp wS := hS.trans (kS.below (fun q e => by have e' : q = O3 := e; have := HO3.out; omega) hS.size)
      clear hPS kS HOV HXwC14
      go_wp2
      refine ⟨rfl, hK _ _ hS ?_⟩
      clear hK K
      refine MixH.done (by kernel_rfl) ?_
      have HZS : Hid (H4At wS (O + 1) h4z nilS nilS) := H4At.below HZ6.out hS
      have HRS : Hid (H4At wS O h4z nilS nilS) := H4At.below HR6.out hS
      have belS := BW.out wS hS
      have f3 : wS.cell? ⟨O3, 3, none⟩ = some (.bool bm) := HPS.out.c3
      have f4 : wS.cell? ⟨O3, 4, none⟩ = some (.int .i64 bo) := HPS.out.c4
      have f10 : wS.cell? ⟨O3, 42, none⟩ = some (.slice va dn vc) := HPS.out.c42
      have HFR : Hid (I4.fragOk bm bo dn = I4.fragOk (I4.pH bs).mf (I4.pH bs).off (tl - hd)) := by show _ = _; rw [HEQ.out.mf, HEQ.out.off, HDNE.out]
      have QF : Hid _ := frag_any bm bo dn wS lbo.1 lbo.2 (by omega)
      go_wp2_with fail
      refine Calls.mono QF.out ?_
      rintro e wF ⟨rfl, rfl⟩
      cases bf : I4.fragOk bm bo dn with
      | false =>
        have HFN : Hid ((!I4.fragOk (I4.pH bs).mf (I4.pH bs).off (tl - hd)) = true) := by show _ = _; rw [← HFR.out, bf]; rfl
        have HNN : Hid (¬ scan (I4.optB bs) 0 = none) := by show ¬ _; rw [HSC.out]; simp
        have HE : Hid (I4.pE bs = 66) := by
          show I4.pE bs = 66
          unfold I4.pE
          rw [HN.out, if_neg HC1.out, if_neg HC2.out, ← HB0.out, if_neg HV4.out, ← HHDE.out, if_neg HD1.out, ← HTLE.out, if_neg HD2.out, if_neg HG.out, if_neg HNN.out, if_pos HFN.out]
        go_wp2_with (first | (refine wpList_load_h4 _ rfl (O + 1) h4z nilS nilS rfl HZS.out rfl ?_) | (refine wpList_store_h4 (.tmp 2) _ rfl rfl O h4z h4z nilS nilS nilS nilS rfl rfl rfl rfl HRS.out rfl ?_))
        intro wE hRE kE
        have HRE : Hid (H4At wE O h4z nilS nilS) := hRE
        have HFE : Hid (Below w.heap.size w wE) := (belS).trans (kE.below (fun q e => by have e' : q = O := e; have := HO.out; omega) (belS).size)
        clear hRE kE
        go_wp2
        (try simp only [Exit.inBlock, Exit.then])
        refine bodyPost_ret (results_h4_tmp rfl _ _ O h4z nilS nilS rfl HRE.out) rfl ?_
        exact ⟨HFE.out, .inl ⟨by rw [HE.out]; decide, by rw [HE.out]; rfl⟩⟩
      | true =>
        have HTK : Hid (I4.pE bs = 0) := by
          show _ = _
          rw [I4.pE_zero]
          refine ⟨by rw [HN.out]; have := HC1.out; omega, by rw [← HB0.out]; have := HV4.out; omega, by rw [← HHDE.out]; exact l1, by rw [← HHDE.out, ← HTLE.out]; exact l2, by rw [← HTLE.out, HN.out]; exact l3, by rw [← HHDE.out]; have := HG.out; omega, by rw [HSC.out, HOPS.out], ?_⟩
          rw [← HTLE.out, ← HHDE.out, ← HFR.out]; exact bf
        go_wp2_with (first | (refine wpList_load_h4 _ rfl O3 ⟨(x1 : Int), (x4 : Int), bd, bm, bo, (x8 : Int), (x9 : Int), 4, sS, 4, sD, [], []⟩ (.slice lb K0 lc) (.slice va dn vc) rfl HPS.out rfl ?_) | (refine wpList_store_h4 (.tmp 2) _ rfl rfl O h4z ⟨(x1 : Int), (x4 : Int), bd, bm, bo, (x8 : Int), (x9 : Int), 4, sS, 4, sD, [], []⟩ nilS nilS (.slice lb K0 lc) (.slice va dn vc) rfl rfl rfl rfl HRS.out rfl ?_))
        intro wE hRE kE
        have HRE : Hid (H4At wE O ⟨(x1 : Int), (x4 : Int), bd, bm, bo, (x8 : Int), (x9 : Int), 4, sS, 4, sD, [], []⟩ (.slice lb K0 lc) (.slice va dn vc)) := hRE
        have bE : Below wS.heap.size wS wS := Below.refl _ _
        have HFE : Hid (Below w.heap.size w wE) := belS.trans (kE.below (fun q e => by have e' : q = O := e; have := HO.out; omega) belS.size)
        have HOKE : Hid (H4Ok wE (I4.pH bs) lb K0 lc ps va dn vc) := by
          have hos : OptsAt wS lb ps := HPO6.out.old hS
          have hoE : wE.ownsRow wp.heap.size 5 1 (.slice va dn vc) dn ((toI dd).map (Value.int .u8)) := kE.owns HOVS.out (fun q hq e => by have e' : q = O := e; have h1 := (HOVS.out.lt q hq).1; have h2 := HR6.out.lt; omega)
          have hopE : OptsAt wE lb ps := HPOL.out wE wS hos kE
          obtain ⟨hsg, hc1, hc2⟩ := owns_at hoE
          have g := G.out
          refine ⟨?_, ?_, HPL.out, hopE, HPV.out.symm, by omega, by rw [HEQ.out.data]; exact HDL.out, by rw [HEQ.out.data]; exact hsg, by rw [HEQ.out.data]; exact HD256.out, hc1, hc2, by omega⟩
          · intro i _; show I4.ipx bs 12 i < 256; unfold I4.ipx; split; exact g _; omega
          · intro i _; show I4.ipx bs 16 i < 256; unfold I4.ipx; split; exact g _; omega
        clear hRE kE
        go_wp2
        (try simp only [Exit.inBlock, Exit.then])
        refine bodyPost_ret (results_h4_tmp rfl _ _ O ⟨(x1 : Int), (x4 : Int), bd, bm, bo, (x8 : Int), (x9 : Int), 4, sS, 4, sD, [], []⟩ (.slice lb K0 lc) (.slice va dn vc) rfl HRE.out) rfl ?_
        have hce := h4C_eqv HEQ.out (.slice lb K0 lc) (.slice va dn vc)
        exact ⟨HFE.out, .inr ⟨HTK.out, lb, K0, lc, ps, va, dn, vc, by rw [hce]; rfl, HOKE.out⟩⟩
  · simp only [Mix.pick]
    have hSn : Below wp.heap.size wp (wA.alloc (.cells (h4C h4z nilS nilS) 28)) := hS.alloc hS.size _
    refine wpList_alloc_h4 rfl rfl ?_
    obtain ⟨wC15, hwn⟩ : ∃ x, x = wA.alloc (.cells (h4C h4z nilS nilS) 28) := ⟨_, rfl⟩
    obtain ⟨O3, hO3⟩ : ∃ x, x = wA.heap.size := ⟨_, rfl⟩
    have HXwC15 : Hid (H4At wC15 O3 h4z nilS nilS) := by rw [hwn, hO3]; exact h4At_new _ _ _ _
    have HO3 : Hid (wp.heap.size ≤ O3) := by rw [hO3]; exact hS.size
    rw [← hwn] at hSn ⊢
    rw [← hO3]
    clear hS hwn hO3
    have hS := hSn
    clear hSn
    go_wp2
    refine ⟨rfl, hK _ _ hS ?_⟩
    clear hK K
    refine MixH.one [false, false, false, false, false, true] 5 5 _ rfl rfl (by kernel_rfl) (by kernel_rfl) (fun K hK => ?_)
    simp only [Mix.pick]
    go_wp2_with fail
    refine Calls.mono (Q4.out wC15 hS) ?_
    rintro e wC16 ⟨rfl, hbN⟩
    have HXwC16 : Hid (H4At wC16 O3 h4z nilS nilS) := H4At.below HXwC15.out hbN
    replace hS : Below wp.heap.size wp wC16 := hS.trans (hbN.mono hS.size)
    clear hbN
    go_wp2
    refine ⟨rfl, hK _ _ hS ?_⟩
    clear hK K
    refine MixH.one [false, false, false, false, false, false, false, false, false, false, false, false, false, false, false, false, false, false, false, false, false, false, false, false, false, false, true] 4 26 _ rfl rfl (by kernel_rfl) (by kernel_rfl) (fun K hK => ?_)
    simp only [Mix.pick]
    go_wp2_with fail
    refine Calls.mono (QS.out wC16 hS) ?_
    rintro e wC17 ⟨rfl, hbN⟩
    have HXwC17 : Hid (H4At wC17 O3 h4z nilS nilS) := H4At.below HXwC16.out hbN
    replace hS : Below wp.heap.size wp wC17 := hS.trans (hbN.mono hS.size)
    clear hbN
    go_wp2
    refine ⟨rfl, hK _ _ hS ?_⟩
    clear hK K
    refine MixH.one [false, false, false, false, false, false, false, false, false, false, false, false, false, false, false, false, false, false, false, false, false, false, false, false, false, false, false, false, true] 3 28 _ rfl rfl (by kernel_rfl) (by kernel_rfl) (fun K hK => ?_)
    simp only [Mix.pick]
    go_wp2_with fail
    refine Calls.mono (QD.out wC17 hS) ?_
    rintro e wC18 ⟨rfl, hbN⟩
    have HXwC18 : Hid (H4At wC18 O3 h4z nilS nilS) := H4At.below HXwC17.out hbN
    replace hS : Below wp.heap.size wp wC18 := hS.trans (hbN.mono hS.size)
    clear hbN
    go_wp2
    refine ⟨rfl, hK _ _ hS ?_⟩
    clear hK K
    refine MixH.one [false, false, false, false, false, false, false, false, false, false, false, false, false, false, false, false, false, false, false, false, false, false, false, false, false, false, false, false, false, false, false, false, false, false, true] 2 34 _ rfl rfl (by kernel_rfl) (by kernel_rfl) (fun K hK => ?_)
    simp only [Mix.pick]
    go_wp2_with fail
    refine Calls.mono (QC.out wC18 hS) ?_
    rintro e wC19 ⟨vv, rfl, hov, hbN⟩
    obtain ⟨va, vc, rfl⟩ := owns_shape hov
    have HOV : Hid (wC19.ownsRow wp.heap.size 5 1 (.slice va dn vc) dn ((toI dd).map (Value.int .u8))) := owns_mono hov hS.size
    clear hov
    have HXwC19 : Hid (H4At wC19 O3 h4z nilS nilS) := H4At.below HXwC18.out hbN
    replace hS : Below wp.heap.size wp wC19 := hS.trans (hbN.mono hS.size)
    clear hbN
    go_wp2
    refine ⟨rfl, hK _ _ hS ?_⟩
    clear hK K
    refine MixH.take 1 35 _ (.agg (h4C ⟨(x1 : Int), (x4 : Int), bd, bm, bo, (x8 : Int), (x9 : Int), 4, sS, 4, sD, [], []⟩ (.slice lb K0 lc) (.slice va dn vc))) rfl (by kernel_rfl) (by kernel_rfl) (by kernel_rfl) (by kernel_rfl) (yields_build_h4s _ _ _ _ _ _ _ _ _ _ _ rfl _ _ _ _ _ _ _ _ _ _ _ _ _ _ _ rfl rfl rfl rfl rfl rfl rfl rfl rfl rfl rfl rfl) hS (fun a' ha => ?_)
    simp only [Act.put, List.setIfInBounds_toArray, List.set_cons_succ, List.set_cons_zero] at ha
    subst ha
    refine MixH.one [false, false, false, false, false, false, false, false, false, false, false, false, false, false, false, false, false, false, false, false, false, false, false, false, false, false, false, false, false, false, false, false, false, false, false, false, false, true] 0 37 _ rfl rfl (by kernel_rfl) (by kernel_rfl) (fun K hK => ?_)
    simp only [Mix.pick]
    refine wpList_store_h4 (.tmp 11) (.tmp 113) rfl rfl O3 h4z ⟨(x1 : Int), (x4 : Int), bd, bm, bo, (x8 : Int), (x9 : Int), 4, sS, 4, sD, [], []⟩ nilS nilS (.slice lb K0 lc) (.slice va dn vc) rfl rfl rfl rfl HXwC19.out rfl ?_
    intro wS hPS kS
    have HPS : Hid (H4At wS O3 ⟨(x1 : Int), (x4 : Int), bd, bm, bo, (x8 : Int), (x9 : Int), 4, sS, 4, sD, [], []⟩ (.slice lb K0 lc) (.slice va dn vc)) := hPS
    have HOVS : Hid (wS.ownsRow wp.heap.size 5 1 (.slice va dn vc) dn ((toI dd).map (Value.int .u8))) := kS.owns HOV.out (fun q hq e => own_ne HOV.out HXwC19.out (by decide) q hq e)
    replace hS : Below wp.heap.size wp wS := hS.trans (kS.below (fun q e => by have e' : q = O3 := e; have := HO3.out; omega) hS.size)
    clear hPS kS HOV HXwC19
    go_wp2
    refine ⟨rfl, hK _ _ hS ?_⟩
    clear hK K
    refine MixH.done (by kernel_rfl) ?_
    have HZS : Hid (H4At wS (O + 1) h4z nilS nilS) := H4At.below HZ6.out hS
    have HRS : Hid (H4At wS O h4z nilS nilS) := H4At.below HR6.out hS
    have belS := BW.out wS hS
    have f3 : wS.cell? ⟨O3, 3, none⟩ = some (.bool bm) := HPS.out.c3
    have f4 : wS.cell? ⟨O3, 4, none⟩ = some (.int .i64 bo) := HPS.out.c4
    have f10 : wS.cell? ⟨O3, 42, none⟩ = some (.slice va dn vc) := HPS.out.c42
    have HFR : Hid (I4.fragOk bm bo dn = I4.fragOk (I4.pH bs).mf (I4.pH bs).off (tl - hd)) := by show _ = _; rw [HEQ.out.mf, HEQ.out.off, HDNE.out]
    have QF : Hid _ := frag_any bm bo dn wS lbo.1 lbo.2 (by omega)
    go_wp2_with fail
    refine Calls.mono QF.out ?_
    rintro e wF ⟨rfl, rfl⟩
    cases bf : I4.fragOk bm bo dn with
    | false =>
      have HFN : Hid ((!I4.fragOk (I4.pH bs).mf (I4.pH bs).off (tl - hd)) = true) := by show _ = _; rw [← HFR.out, bf]; rfl
      have HNN : Hid (¬ scan (I4.optB bs) 0 = none) := by show ¬ _; rw [HSC.out]; simp
      have HE : Hid (I4.pE bs = 66) := by
        show I4.pE bs = 66
        unfold I4.pE
        rw [HN.out, if_neg HC1.out, if_neg HC2.out, ← HB0.out, if_neg HV4.out, ← HHDE.out, if_neg HD1.out, ← HTLE.out, if_neg HD2.out, if_neg HG.out, if_neg HNN.out, if_pos HFN.out]
      go_wp2_with (first | (refine wpList_load_h4 _ rfl (O + 1) h4z nilS nilS rfl HZS.out rfl ?_) | (refine wpList_store_h4 (.tmp 2) _ rfl rfl O h4z h4z nilS nilS nilS nilS rfl rfl rfl rfl HRS.out rfl ?_))
      intro wE hRE kE
      have HRE : Hid (H4At wE O h4z nilS nilS) := hRE
      have HFE : Hid (Below w.heap.size w wE) := (belS).trans (kE.below (fun q e => by have e' : q = O := e; have := HO.out; omega) (belS).size)
      clear hRE kE
      go_wp2
      (try simp only [Exit.inBlock, Exit.then])
      refine bodyPost_ret (results_h4_tmp rfl _ _ O h4z nilS nilS rfl HRE.out) rfl ?_
      exact ⟨HFE.out, .inl ⟨by rw [HE.out]; decide, by rw [HE.out]; rfl⟩⟩
    | true =>
      have HTK : Hid (I4.pE bs = 0) := by
        show _ = _
        rw [I4.pE_zero]
        refine ⟨by rw [HN.out]; have := HC1.out; omega, by rw [← HB0.out]; have := HV4.out; omega, by rw [← HHDE.out]; exact l1, by rw [← HHDE.out, ← HTLE.out]; exact l2, by rw [← HTLE.out, HN.out]; exact l3, by rw [← HHDE.out]; have := HG.out; omega, by rw [HSC.out, HOPS.out], ?_⟩
        rw [← HTLE.out, ← HHDE.out, ← HFR.out]; exact bf
      go_wp2_with (first | (refine wpList_load_h4 _ rfl O3 ⟨(x1 : Int), (x4 : Int), bd, bm, bo, (x8 : Int), (x9 : Int), 4, sS, 4, sD, [], []⟩ (.slice lb K0 lc) (.slice va dn vc) rfl HPS.out rfl ?_) | (refine wpList_store_h4 (.tmp 2) _ rfl rfl O h4z ⟨(x1 : Int), (x4 : Int), bd, bm, bo, (x8 : Int), (x9 : Int), 4, sS, 4, sD, [], []⟩ nilS nilS (.slice lb K0 lc) (.slice va dn vc) rfl rfl rfl rfl HRS.out rfl ?_))
      intro wE hRE kE
      have HRE : Hid (H4At wE O ⟨(x1 : Int), (x4 : Int), bd, bm, bo, (x8 : Int), (x9 : Int), 4, sS, 4, sD, [], []⟩ (.slice lb K0 lc) (.slice va dn vc)) := hRE
      have bE : Below wS.heap.size wS wS := Below.refl _ _
      have HFE : Hid (Below w.heap.size w wE) := belS.trans (kE.below (fun q e => by have e' : q = O := e; have := HO.out; omega) belS.size)
      have HOKE : Hid (H4Ok wE (I4.pH bs) lb K0 lc ps va dn vc) := by
        have hos : OptsAt wS lb ps := HPO6.out.old hS
        have hoE : wE.ownsRow wp.heap.size 5 1 (.slice va dn vc) dn ((toI dd).map (Value.int .u8)) := kE.owns HOVS.out (fun q hq e => by have e' : q = O := e; have h1 := (HOVS.out.lt q hq).1; have h2 := HR6.out.lt; omega)
        have hopE : OptsAt wE lb ps := HPOL.out wE wS hos kE
        obtain ⟨hsg, hc1, hc2⟩ := owns_at hoE
        have g := G.out
        refine ⟨?_, ?_, HPL.out, hopE, HPV.out.symm, by omega, by rw [HEQ.out.data]; exact HDL.out, by rw [HEQ.out.data]; exact hsg, by rw [HEQ.out.data]; exact HD256.out, hc1, hc2, by omega⟩
        · intro i _; show I4.ipx bs 12 i < 256; unfold I4.ipx; split; exact g _; omega
        · intro i _; show I4.ipx bs 16 i < 256; unfold I4.ipx; split; exact g _; omega
      clear hRE kE
      go_wp2
      (try simp only [Exit.inBlock, Exit.then])
      refine bodyPost_ret (results_h4_tmp rfl _ _ O ⟨(x1 : Int), (x4 : Int), bd, bm, bo, (x8 : Int), (x9 : Int), 4, sS, 4, sD, [], []⟩ (.slice lb K0 lc) (.slice va dn vc) rfl HRE.out) rfl ?_
      have hce := h4C_eqv HEQ.out (.slice lb K0 lc) (.slice va dn vc)
      exact ⟨HFE.out, .inr ⟨HTK.out, lb, K0, lc, ps, va, dn, vc, by rw [hce]; rfl, HOKE.out⟩⟩
end Go.Proofs.YtdinhgfkpjaipaaDoor
namespace Go.Proofs.YtdinhgfkpjaipaaDoor
open Go.RowKit
open I4 (H4)

theorem par_small {w : World} {bs : List Nat} {lb : Option Addr} {K lc : Nat} {ps : List OpV} {va : Option Addr} {vn vc : Nat} (t : I4.Taken bs) (h256 : ∀ x ∈ bs, x < 256) (k : H4Ok w (I4.pH bs) lb K lc ps va vn vc) : H4Sm K ps vn := by
  have h1 := t.flat h256
  have h5 := I4.hdL_le bs
  refine ⟨?_, ?_, fun o ho => ?_⟩
  · have h3 := congrArg List.length k.hos
    simp only [vals, List.length_map] at h3
    have key : ∀ l : List (Int × List Nat), l.length ≤ (I4.flatI l).length := by
      intro l
      unfold I4.flatI
      induction l with
      | nil => simp [I4.flatO]
      | cons o l ih => rw [List.map_cons, I4.flatO_cons, List.length_cons]; omega
    have h4 := key (I4.pH bs).os
    have h2 := k.ol
    omega
  · have h2 := k.dl
    have h3 := t.data_len
    have h4 := t.tl
    have h6 := t.le
    omega
  · have h2 := h1.1
    rw [k.hos] at h2
    have := List.all_eq_true.1 h2 o.val (List.mem_map.2 ⟨o, ho, rfl⟩)
    simp only [I4.okO, Bool.and_eq_true, decide_eq_true_eq] at this
    have h6 : o.d.length ≤ 38 := this.2
    omega
set_option maxHeartbeats 3200000 in
set_option maxRecDepth 100000 in
theorem rcanon_any (a : Option Addr) (n cap : Nat) (bs : List Nat) (w : World) (hn : bs.length = n) (hs : Seg .u8 w a (toI bs)) (h256 : ∀ x ∈ bs, x < 256) (h2 : n ≤ cap) (h3 : cap ≤ 9223372036854775807) (hm : n ≤ 1048576) :
    Calls Tryd.prog 37 #[.slice a n cap] w fun e w' => e = .returned (.bool (canon bs)) ∧ Below w.heap.size w w' := by
  have QP : Hid _ := rparse_any a n cap bs w hn hs h256 h2 h3 hm
  have HN : Hid (bs.length = n) := hn
  have H256 : Hid (∀ x ∈ bs, x < 256) := h256
  have HSEG : Hid (∀ A, Below w.heap.size w A → Seg .u8 A a (toI bs)) := fun A hA => hs.old hA
  obtain ⟨cn, hcn⟩ : ∃ cn, cn = canon bs := ⟨_, rfl⟩
  rw [← hcn]
  have HCN : Hid (cn = canon bs) := hcn
  clear hn hs h256 hcn
  go_enter Tryd.func37, Tryd.ntmps37
  go_wp2_with fail
  refine Calls.mono QP.out ?_
  rintro e w1 ⟨bel1, hres⟩
  clear QP
  rcases hres with ⟨hne, rfl⟩ | ⟨h0, lb, K, lc, ps, va, vn, vc, rfl, hok⟩
  · obtain ⟨E, hE⟩ : ∃ E, E = I4.pE bs := ⟨_, rfl⟩
    rw [← hE] at hne ⊢
    have b1 : ((E : Int) != 0) = true := by rw [bne_iff_ne]; omega
    have HF : Hid (cn = false) := by show _ = _; rw [HCN.out]; unfold canon; rw [← hE, decide_eq_false hne]; rfl
    clear hne hE
    go_wp2_with (first | (refine wpList_alloc_h4 rfl rfl ?_) | (refine wpList_store_h4 (.tmp 3) (.tmp 10) rfl rfl w1.heap.size h4z h4z nilS nilS nilS nilS rfl rfl rfl rfl (h4At_new _ _ _ _) rfl ?_))
    intro w2 hP2 k2
    have HF2 : Hid (Below w.heap.size w w2) := bthen bel1 (stored_below k2)
    clear hP2 k2
    go_wp2
    go_ret
    exact ⟨by rw [HF.out]; rfl, HF2.out⟩
  have tk := (I4.pE_zero bs).1 h0
  have HSM : Hid (H4Sm K ps vn) := par_small tk H256.out hok
  obtain ⟨may, _⟩ := tk.may H256.out
  have HCHK : Hid (I4.chk (I4.pH bs) = 0) := (I4.chk_zero _).2 may
  have HSL : Hid (∀ x ∈ I4.ser (I4.pH bs), x < 256) := ser_256 _ may hok.sx hok.dx (by rw [hok.hos]; exact opts_256 hok.opts) hok.d256
  have HCN2 : Hid (cn = decide (bs = I4.ser (I4.pH bs))) := by
    show _ = _
    rw [HCN.out]; unfold canon; rw [h0]
    by_cases e : bs = I4.ser (I4.pH bs)
    · rw [decide_eq_true e, decide_eq_true e.symm]; rfl
    · rw [decide_eq_false (show ¬ (I4.ser (I4.pH bs) = bs) from fun h => e h.symm), decide_eq_false e]; rfl
  have HOK : Hid (H4Ok w1 (I4.pH bs) lb K lc ps va vn vc) := hok
  obtain ⟨P, hP⟩ : ∃ P, P = I4.pH bs := ⟨_, rfl⟩
  rw [← hP] at HOK HCHK HSL HCN2 ⊢
  clear h0 hok tk may hP HCN
  go_wp2_with (first | (refine wpList_alloc_h4 rfl rfl ?_) | (refine wpList_store_h4 (.tmp 3) (.tmp 10) rfl rfl w1.heap.size h4z P nilS nilS (.slice lb K lc) (.slice va vn vc) rfl rfl rfl rfl (h4At_new _ _ _ _) rfl ?_))
  intro w2 hP2 k2
  have sb := stored_below k2
  have bel2 := bthen bel1 sb
  obtain ⟨O, hOO⟩ : ∃ O, O = w1.heap.size := ⟨_, rfl⟩
  rw [← hOO] at hP2 ⊢
  have HP2 : Hid (H4At w2 O P (.slice lb K lc) (.slice va vn vc)) := hP2
  have QS : Hid _ := rser_any P lb K lc ps va vn vc w2 (HOK.out.old sb) HSM.out
  rw [HCHK.out] at QS
  clear hP2 k2 sb hOO bel1
  go_wp2_with (first | (refine wpList_load_h4 _ rfl O P (.slice lb K lc) (.slice va vn vc) rfl HP2.out rfl ?_))
  refine Calls.mono QS.out ?_
  rintro e w3 ⟨v, rfl, hb3, hs⟩
  rcases hs with ⟨_, sa, sc, rfl, ho⟩ | ⟨hne, _⟩
  case inr => exact absurd HCHK.out hne
  have bel3 := bthen bel2 hb3
  obtain ⟨T, hT⟩ : ∃ T, T = (I4.ser P).length := ⟨_, rfl⟩
  rw [← hT] at ho ⊢
  have QA : Hid _ := alike_any a sa n T cap sc bs (I4.ser P) w3 HN.out hT.symm (HSEG.out w3 bel3) (owns_at ho).1 H256.out HSL.out
  rw [← HCN2.out] at QA
  clear ho hb3 QS HP2 hT bel2
  go_wp2_with fail
  refine Calls.mono QA.out ?_
  rintro e w4 ⟨rfl, rfl⟩
  go_wp2
  go_ret
  exact ⟨rfl, bel3⟩
theorem set_own {w : World} {B g N c i y : Nat} {l : List Nat} (ho : w.ownsRow B 5 1 (.slice (some ⟨g, 0, none⟩) N c) N ((toI l).map (Value.int .u8))) (hl : l.length = N) : (w.setCell ⟨g, i, none⟩ (.int .u8 (y : Int))).ownsRow B 5 1 (.slice (some ⟨g, 0, none⟩) N c) N ((toI (l.set i y)).map (Value.int .u8)) := by
  have hg := ho.2
  rcases hg with ⟨h0, _⟩ | ⟨g', cap, cur, e, hb, hh, h1, h2, h3, h4⟩
  · simp at h0
  · simp only [Value.slice.injEq, Option.some.injEq, Addr.mk.injEq, true_and, and_true] at e
    obtain ⟨rfl, rfl⟩ := e
    refine ⟨by simp [toI, hl], .inr ⟨g, c, cur.setIfInBounds i (.int .u8 (y : Int)), rfl, hb, heap_setCell_same _ _ _ _ _ _ hh, h1, h2, by simp [h3], ?_⟩⟩
    rw [Array.toList_setIfInBounds, Nat.mul_one, List.take_set]
    rw [Nat.mul_one] at h4
    rw [h4]
    simp [toI, List.map_set]
theorem own_fz {w : World} {B g N c : Nat} {xs : List Value} (ho : w.ownsRow B 5 1 (.slice (some ⟨g, 0, none⟩) N c) N xs) (i : Nat) : w.frozen? ⟨g, i, none⟩ = false := by
  rcases ho.2 with ⟨h0, _⟩ | ⟨g', cap, cur, e, hb, hh, _⟩
  · simp at h0
  · simp only [Value.slice.injEq, Option.some.injEq, Addr.mk.injEq, true_and, and_true] at e
    obtain ⟨rfl, rfl⟩ := e
    simp [World.frozen?, hh]
set_option maxHeartbeats 6400000 in
set_option maxRecDepth 100000 in
theorem rhop_any (a : Option Addr) (n cap : Nat) (bs : List Nat) (w : World) (hn : bs.length = n) (hs : Seg .u8 w a (toI bs)) (h256 : ∀ x ∈ bs, x < 256) (h2 : n ≤ cap) (h3 : cap ≤ 9223372036854775807) (hm : n ≤ 1048576) :
    Calls Tryd.prog 43 #[.slice a n cap] w fun e w' => ∃ v, e = .returned (.tuple #[v, .int .i64 (hopE bs : Nat)]) ∧ Below w.heap.size w w' ∧ w'.ownsRow w.heap.size 5 1 v n ((toI (hopL bs)).map (Value.int .u8)) := by
  have QP : Hid _ := rparse_any a n cap bs w hn hs h256 h2 h3 hm
  have HN : Hid (bs.length = n) := hn
  have H256 : Hid (∀ x ∈ bs, x < 256) := h256
  have HCOP : Hid (∀ A, Below w.heap.size w A → Calls Tryd.prog 27 #[.slice a n cap] A fun e w' => ∃ v, e = .returned v ∧ w'.ownsRow A.heap.size 5 1 v n ((toI bs).map (Value.int .u8)) ∧ Below A.heap.size A w') := fun A hA => copied_any a n cap bs A hn (hs.old hA) (by omega)
  obtain ⟨Q, hQ⟩ : ∃ Q, Q = hopE bs := ⟨_, rfl⟩
  rw [← hQ]
  have HQ : Hid (Q = hopE bs) := hQ
  clear hn hs h256 hQ
  go_enter Tryd.func43, Tryd.ntmps43
  go_wp2_with fail
  refine Calls.mono QP.out ?_
  rintro e w1 ⟨bel1, hres⟩
  clear QP
  rcases hres with ⟨hne, rfl⟩ | ⟨h0, lb, K, lc, ps, va, vn, vc, rfl, hok⟩
  · obtain ⟨e1, e2⟩ := hopE_bad hne
    obtain ⟨E, hE⟩ : ∃ E, E = I4.pE bs := ⟨_, rfl⟩
    have HQE : Hid (Q = E) := by show _ = _; rw [HQ.out, e1, hE]
    have HLE : Hid (hopL bs = bs) := e2
    rw [← hE] at hne ⊢
    have b1 : ((E : Int) != 0) = true := by rw [bne_iff_ne]; omega
    clear hne hE e1 e2
    go_wp2_with (first | (refine wpList_alloc_h4 rfl rfl ?_) | (refine wpList_store_h4 (.tmp 4) (.tmp 12) rfl rfl w1.heap.size h4z h4z nilS nilS nilS nilS rfl rfl rfl rfl (h4At_new _ _ _ _) rfl ?_))
    intro w2 hP2 k2
    have bel2 := bthen bel1 (stored_below k2)
    clear hP2 k2
    go_wp2_with fail
    refine Calls.mono (HCOP.out w2 bel2) ?_
    rintro e w3 ⟨v, rfl, ho, hb3⟩
    have HF : Hid (Below w.heap.size w w3 ∧ w3.ownsRow w.heap.size 5 1 v n ((toI (hopL bs)).map (Value.int .u8))) := ⟨bthen bel2 hb3, by rw [HLE.out]; exact owns_mono ho bel2.size⟩
    clear ho hb3
    go_wp2
    go_ret2
    exact ⟨_, by rw [HQE.out]; rfl, HF.out.1, HF.out.2⟩
  have tk := (I4.pE_zero bs).1 h0
  have HTK : Hid (I4.Taken bs) := tk
  have hn20 : 20 ≤ n := by have h1 := tk.hd; have h2 := tk.hd2; have h3 := tk.tl; have h4 := HN.out; omega
  obtain ⟨b8, hb8⟩ : ∃ x, x = bs.getD 8 0 := ⟨_, rfl⟩
  have HB8 : Hid (b8 = bs.getD 8 0) := hb8
  have HTTL : Hid ((I4.pH bs).ttl = (b8 : Int)) := by rw [hb8]; rfl
  have l8 : b8 < 256 := by rw [hb8]; exact I4.getD_lt bs H256.out 8
  have HE0 : Hid (I4.pE bs = 0) := h0
  obtain ⟨P, hP⟩ : ∃ P, P = I4.pH bs := ⟨_, rfl⟩
  rw [← hP] at HTTL ⊢
  clear h0 tk hP hok hb8
  go_wp2_with (first | (refine wpList_alloc_h4 rfl rfl ?_) | (refine wpList_store_h4 (.tmp 4) (.tmp 12) rfl rfl w1.heap.size h4z P nilS nilS (.slice lb K lc) (.slice va vn vc) rfl rfl rfl rfl (h4At_new _ _ _ _) rfl ?_))
  intro w2 hP2 k2
  have bel2 := bthen bel1 (stored_below k2)
  obtain ⟨O, hOO⟩ : ∃ O, O = w1.heap.size := ⟨_, rfl⟩
  rw [← hOO] at hP2 ⊢
  have g5 : w2.cell? ⟨O, 5, none⟩ = some (.int .i64 (b8 : Int)) := by rw [← HTTL.out]; exact hP2.c5
  clear hP2 k2 hOO bel1
  by_cases hlo : b8 < 2
  · have lo : (b8 : Int) < 2 := by omega
    have HQ2 : Hid (Q = 67 ∧ hopL bs = bs) := by
      have e1 : hopE bs = 67 := by unfold hopE; rw [HE0.out, if_neg (by simp), ← HB8.out, if_pos hlo]
      refine ⟨by rw [HQ.out, e1], ?_⟩
      unfold hopL
      rw [e1, if_neg (by decide)]
    clear hlo
    go_wp2_with fail
    refine Calls.mono (HCOP.out w2 bel2) ?_
    rintro e w3 ⟨v, rfl, ho, hb3⟩
    have HF : Hid (Below w.heap.size w w3 ∧ w3.ownsRow w.heap.size 5 1 v n ((toI (hopL bs)).map (Value.int .u8))) := ⟨bthen bel2 hb3, by rw [HQ2.out.2]; exact owns_mono ho bel2.size⟩
    clear ho hb3
    go_wp2
    go_ret2
    exact ⟨_, by rw [HQ2.out.1]; rfl, HF.out.1, HF.out.2⟩
  have lo : ¬ (b8 : Int) < 2 := by omega
  have HQ2 : Hid (Q = 0 ∧ hopL bs = I4.hop bs) := by
    have e1 : hopE bs = 0 := by unfold hopE; rw [HE0.out, if_neg (by simp), ← HB8.out, if_neg hlo]
    refine ⟨by rw [HQ.out, e1], ?_⟩
    unfold hopL
    rw [e1, if_pos rfl]
  have HHX : Hid (I4.hopX bs = I4.hopF bs) := I4.hopX_eq HTK.out (by rw [← HB8.out]; omega) H256.out
  clear hlo
  go_wp2_with fail
  refine Calls.mono (HCOP.out w2 bel2) ?_
  rintro e w3 ⟨v, rfl, ho, hb3⟩
  have bel3 := bthen bel2 hb3
  obtain ⟨g, gc, rfl⟩ := owns_some ho (by omega)
  have HO3 : Hid (w3.ownsRow w2.heap.size 5 1 (.slice (some ⟨g, 0, none⟩) n gc) n ((toI bs).map (Value.int .u8))) := ho
  have glt : w2.heap.size ≤ g := (ho.lt g rfl).1
  have HWSZ : Hid (w.heap.size ≤ w2.heap.size) := bel2.size
  have hcp := (owns_at ho).2
  obtain ⟨g', o', e1, hcs⟩ := seg_at (owns_at ho).1 0 (by rw [HN.out]; omega)
  have e2 := Option.some.inj e1
  simp only [Addr.mk.injEq, and_true] at e2
  obtain ⟨rfl, rfl⟩ := e2
  have c0 : w3.cell? ⟨g, 0, none⟩ = some (.int .u8 ((bs.getD 0 0 : Nat) : Int)) := by have := hcs 0 (by rw [HN.out]; omega); rwa [Nat.zero_add] at this
  have c8 : w3.cell? ⟨g, 8, none⟩ = some (.int .u8 (b8 : Int)) := by have := hcs 8 (by rw [HN.out]; omega); rw [Nat.zero_add, ← HB8.out] at this; exact this
  have z8 : w3.frozen? ⟨g, 8, none⟩ = false := own_fz ho 8
  obtain ⟨b0, hb0⟩ : ∃ x, x = bs.getD 0 0 := ⟨_, rfl⟩
  rw [← hb0] at c0
  have l0 : b0 < 256 := by rw [hb0]; exact I4.getD_lt bs H256.out 0
  have wm : IntKind.i64.wrap ((b0 : Int) % 16 * 4) = (b0 : Int) % 16 * 4 := by rw [IntKind.wrap_i64]; omega
  obtain ⟨hd, hhd⟩ : ∃ hd, hd = I4.hdL bs := ⟨_, rfl⟩
  have HHD : Hid ((b0 : Int) % 16 * 4 = (hd : Int)) := by show _ = _; rw [hhd]; unfold I4.hdL; rw [← hb0]; omega
  have HHDE : Hid (hd = I4.hdL bs) := hhd
  have lhd : 20 ≤ hd ∧ hd ≤ n := by rw [hhd]; have h1 := HTK.out.hd; have h2 := HTK.out.hd2; have h3 := HTK.out.tl; have h4 := HN.out; omega
  obtain ⟨lhd1, lhd2⟩ := lhd
  have n0 : (0 : Int) < (n : Int) := by omega
  have n8 : (8 : Int) < (n : Int) := by omega
  have n10 : (10 : Int) < (n : Int) := by omega
  have n11 : (11 : Int) < (n : Int) := by omega
  have u8 : IntKind.u8.wrap ((b8 : Int) - 1) = ((b8 - 1 : Nat) : Int) := by rw [IntKind.wrap_u8]; omega
  obtain ⟨w4, hw4⟩ : ∃ w4, w4 = w3.setCell ⟨g, 8, none⟩ (.int .u8 ((b8 - 1 : Nat) : Int)) := ⟨_, rfl⟩
  have E4 : Hid (w3.setCell ⟨g, 8, none⟩ (.int .u8 ((b8 - 1 : Nat) : Int)) = w4) := hw4.symm
  obtain ⟨cs, hcs4⟩ : ∃ cs, cs = bs.set 8 (b8 - 1) := ⟨_, rfl⟩
  have HCS : Hid (cs = bs.set 8 (b8 - 1)) := hcs4
  have HCSL : Hid (cs.length = n) := by show _ = _; rw [hcs4, List.length_set]; exact HN.out
  have HO4 : Hid (w4.ownsRow w2.heap.size 5 1 (.slice (some ⟨g, 0, none⟩) n gc) n ((toI cs).map (Value.int .u8))) := by rw [hw4, hcs4]; exact set_own HO3.out HN.out
  have HB4 : Hid (Below w.heap.size w w4) := by rw [hw4]; exact bel3.trans (((Ch.refl (fun q => q = g) w3).set ⟨g, 8, none⟩ _ rfl).below (fun q e => by have e' : q = g := e; have := bel2.size; omega) bel3.size)
  have HCS256 : Hid (∀ x ∈ cs, x < 256) := by
    rw [hcs4]
    intro x hx
    rcases List.mem_or_eq_of_mem_set hx with h1 | h1
    · exact H256.out x h1
    · omega
  have HX : Hid (65535 - S.fold (S.wv false (cs.take 10 ++ (cs.take hd).drop 12)) = I4.hopF bs) := by
    show _ = _
    rw [← HHX.out, HCS.out, HB8.out, HHDE.out]
    rfl
  have hcp1 := hcp.1
  have hcp2 := hcp.2
  have QK : Hid (∀ (A : World) (ad : Option Addr), Below w4.heap.size w4 A → (hd = 12 ∨ ad = some ⟨g, 12, none⟩) → Calls Tryd.prog 75 #[.slice (some ⟨A.heap.size, 0, none⟩) 2 2] (A.alloc (.cells #[.slice (some ⟨g, 0, none⟩) 10 gc, .slice ad (hd - 12) (gc - 12)] 26)) fun e w' => e = .returned (.int .i64 ((I4.hopF bs : Nat) : Int)) ∧ Below A.heap.size A w') := by
    intro A ad hA had
    have hoA := owns_below HO4.out hA
    have hsg := (owns_at hoA).1
    have p1 : Seg .u8 A (some ⟨g, 0, none⟩) (toI (cs.take 10)) := by
      have h1 := hsg.part0 10 (by rw [toI_len, HCSL.out]; omega)
      rw [toI_take] at h1; exact h1
    have p2 : Seg .u8 A ad (toI ((cs.take hd).drop 12)) := by
      rcases had with h0 | rfl
      · left; rw [List.drop_eq_nil_of_le (by rw [List.length_take]; omega)]; rfl
      · have h1 := hsg.part 12 (hd - 12) (by rw [toI_len, HCSL.out]; omega)
        rw [toI_drop, toI_take] at h1
        rw [List.drop_take]
        simpa [Addr.add] using h1
    have := rcheck_two A A.heap.size (some ⟨g, 0, none⟩) ad 10 (hd - 12) gc (gc - 12) (cs.take 10) ((cs.take hd).drop 12) rfl (by rw [List.length_take, HCSL.out]; omega) (by rw [List.length_drop, List.length_take, HCSL.out]; omega) ⟨p1, fun x hx => HCS256.out x (List.mem_of_mem_take hx), by show (cs.take 10).length ≤ gc; rw [List.length_take]; omega, hcp2⟩ ⟨p2, fun x hx => HCS256.out x (List.mem_of_mem_take (List.mem_of_mem_drop hx)), by show ((cs.take hd).drop 12).length ≤ gc - 12; rw [List.length_drop, List.length_take]; omega, by show gc - 12 ≤ _; omega⟩ (by omega)
    rw [HX.out] at this
    exact this
  have s10 : (10 : Int) ≤ (gc : Int) := by omega
  have s12 : (12 : Int) ≤ (hd : Int) := by omega
  have shd : (hd : Int) ≤ (gc : Int) := by omega
  have s2 : ((hd : Int)).toNat = hd := by omega
  have hgc12 : ¬ gc = 12 := by omega
  clear ho hb3 hcs e1 hb0 hhd hw4 hcs4 g5 lo bel2 HO3 HCOP hcp
  go_upto_region 8 with fail
  rw [HHD.out]
  go_upto_region 9 with fail
  rw [E4.out]
  clear E4 c0 c8 z8 wm u8
  go_wp2
  refine MixH.start (fun x => Below w4.heap.size w4 x) (by kernel_rfl) ?_
  obtain ⟨wA, hwA⟩ : ∃ wA, wA = w4.drew := ⟨_, rfl⟩
  have hS : Below w4.heap.size w4 wA := by rw [hwA]; exact (Below.refl _ _).drew
  rw [← hwA]
  clear hwA
  refine MixH.takes [true, true, true, true, true] 3 (by kernel_rfl) (by kernel_rfl) (by decide) (by kernel_rfl) hS (fun K hK => ?_)
  simp only [Mix.pick]
  repeat (go_big_quiet_step (fail))
  refine wpQuiet_nil (hK _ ?_)
  clear hK K
  refine MixH.one [false, false, false, false, false, true] 2 5 _ rfl rfl (by kernel_rfl) (by kernel_rfl) (fun K hK => ?_)
  simp only [Mix.pick]
  have hSn : Below w4.heap.size w4 (wA.alloc (.cells #[.slice (some ⟨g, 0, none⟩) 10 gc, .slice (some ⟨g, 12, none⟩) (hd - 12) (gc - 12)] 26)) := hS.alloc hS.size _
  go_wp2
  have hS0 := hS
  clear hS
  have hS := hSn
  clear hSn
  refine ⟨rfl, hK _ _ hS ?_⟩
  clear hK K
  refine MixH.one [false, false, false, false, false, false, true] 1 6 _ rfl rfl (by kernel_rfl) (by kernel_rfl) (fun K hK => ?_)
  simp only [Mix.pick]
  go_wp2_with fail
  refine Calls.mono (QK.out wA (some ⟨g, 12, none⟩) hS0 (.inr rfl)) ?_
  rintro e w5 ⟨rfl, hb5⟩
  have hS5 : Below w4.heap.size w4 w5 := hS0.trans (hb5.mono hS0.size)
  clear hS
  have hS := hS5
  clear hS5 hb5 hS0
  go_wp2
  refine ⟨rfl, hK _ _ hS ?_⟩
  clear hK K
  refine MixH.takes [false, false, false, false, false, false, false, true] 0 (by kernel_rfl) (by kernel_rfl) (by decide) (by kernel_rfl) hS (fun K hK => ?_)
  simp only [Mix.pick]
  repeat (go_big_quiet_step (fail))
  refine wpQuiet_nil (hK _ ?_)
  clear hK K
  refine MixH.done (by kernel_rfl) ?_
  have HB5 : Hid (Below w.heap.size w w5) := bthen HB4.out hS
  have HO5 : Hid (w5.ownsRow w2.heap.size 5 1 (.slice (some ⟨g, 0, none⟩) n gc) n ((toI cs).map (Value.int .u8))) := owns_below HO4.out hS
  obtain ⟨F, hF⟩ : ∃ F, F = I4.hopF bs := ⟨_, rfl⟩
  have HFF : Hid (F = I4.hopF bs) := hF
  have lF : F ≤ 65535 := by rw [hF]; exact I4.hopF_le bs
  rw [← hF]
  have f1 : IntKind.u8.wrap ((F : Int) / 256) = (F : Int) / 256 := by rw [IntKind.wrap_u8]; omega
  have HI1 : Hid ((F : Int) / 256 = ((F / 256 : Nat) : Int)) := by show _ = _; omega
  have HI2 : Hid ((F : Int) % 256 = ((F % 256 : Nat) : Int)) := by show _ = _; omega
  have f2 : IntKind.u8.wrap ((F : Int) % 256) = (F : Int) % 256 := by rw [IntKind.wrap_u8]; omega
  have x10 : ∃ x, w5.cell? ⟨g, 10, none⟩ = some (.int .u8 x) := by
    obtain ⟨g', o', e1, hcs⟩ := seg_at (owns_at HO5.out).1 0 (by rw [HCSL.out]; omega)
    have e2 := Option.some.inj e1
    simp only [Addr.mk.injEq, and_true] at e2
    obtain ⟨rfl, rfl⟩ := e2
    have := hcs 10 (by rw [HCSL.out]; omega); rw [Nat.zero_add] at this; exact ⟨_, this⟩
  obtain ⟨y10, c10⟩ := x10
  have z10 : w5.frozen? ⟨g, 10, none⟩ = false := own_fz HO5.out 10
  obtain ⟨w6, hw6⟩ : ∃ w6, w6 = w5.setCell ⟨g, 10, none⟩ (.int .u8 ((F : Int) / 256)) := ⟨_, rfl⟩
  have E6 : Hid (w5.setCell ⟨g, 10, none⟩ (.int .u8 ((F : Int) / 256)) = w6) := hw6.symm
  have HO6 : Hid (w6.ownsRow w2.heap.size 5 1 (.slice (some ⟨g, 0, none⟩) n gc) n ((toI (cs.set 10 (F / 256))).map (Value.int .u8))) := by rw [hw6, HI1.out]; exact set_own HO5.out HCSL.out
  have HL6 : Hid ((cs.set 10 (F / 256)).length = n) := by show _ = _; rw [List.length_set]; exact HCSL.out
  have HWG : Hid (w.heap.size ≤ g) := by show _ ≤ _; have h1 := HWSZ.out; omega
  have HB6 : Hid (Below w.heap.size w w6) := by rw [hw6]; exact HB5.out.trans (((Ch.refl (fun q => q = g) w5).set ⟨g, 10, none⟩ _ rfl).below (fun q e => by have e' : q = g := e; have := HWG.out; omega) HB5.out.size)
  clear hF hw6 hS HO4 HB4
  go_upto_region 11 with fail
  rw [E6.out]
  clear E6 c10 z10 f1
  have x11 : ∃ x, w6.cell? ⟨g, 11, none⟩ = some (.int .u8 x) := by
    obtain ⟨g', o', e1, hcs⟩ := seg_at (owns_at HO6.out).1 0 (by rw [HL6.out]; omega)
    have e2 := Option.some.inj e1
    simp only [Addr.mk.injEq, and_true] at e2
    obtain ⟨rfl, rfl⟩ := e2
    have := hcs 11 (by rw [HL6.out]; omega); rw [Nat.zero_add] at this; exact ⟨_, this⟩
  obtain ⟨y11, c11⟩ := x11
  have z11 : w6.frozen? ⟨g, 11, none⟩ = false := own_fz HO6.out 11
  obtain ⟨w7, hw7⟩ : ∃ w7, w7 = w6.setCell ⟨g, 11, none⟩ (.int .u8 ((F : Int) % 256)) := ⟨_, rfl⟩
  have E7 : Hid (w6.setCell ⟨g, 11, none⟩ (.int .u8 ((F : Int) % 256)) = w7) := hw7.symm
  have HF7 : Hid (Below w.heap.size w w7 ∧ w7.ownsRow w.heap.size 5 1 (.slice (some ⟨g, 0, none⟩) n gc) n ((toI (hopL bs)).map (Value.int .u8))) := by
    refine ⟨by rw [hw7]; exact HB6.out.trans (((Ch.refl (fun q => q = g) w6).set ⟨g, 11, none⟩ _ rfl).below (fun q e => by have e' : q = g := e; have := HWG.out; omega) HB6.out.size), ?_⟩
    have h1 := set_own (i := 11) (y := F % 256) HO6.out HL6.out
    have e : (cs.set 10 (F / 256)).set 11 (F % 256) = hopL bs := by
      rw [HQ2.out.2, HCS.out, HFF.out, HB8.out]
      rfl
    rw [hw7, ← e, HI2.out]
    exact owns_mono h1 HWSZ.out
  clear hw7
  go_upto_region 12 with fail
  rw [E7.out]
  clear E7 c11 z11 f2
  go_wp2
  go_ret2
  exact ⟨_, by rw [HQ2.out.1]; rfl, HF7.out.1, HF7.out.2⟩
end Go.Proofs.YtdinhgfkpjaipaaDoor
