/-
  Layer 18, QueueFair's own: apt, none, fair.
-/
import Derived.Test.YtclkcpdghpaboaaQFq
namespace Go.Proofs.Ytclkcpdghpaboaa
open Go.RowKit Go.ChangeShapes Go.WideShapes

theorem i64_f (x : Int) (h0 : -1000000000000000000 ≤ x) (h1 : x ≤ 1000000000000000000) : IntKind.i64.wrap x = x := by rw [IntKind.wrap_i64]; omega
theorem mul_b {x y A B : Int} (hx : 0 ≤ x) (hx2 : x ≤ A) (hy : 0 ≤ y) (hy2 : y ≤ B) : 0 ≤ x * y ∧ x * y ≤ A * B := ⟨Int.mul_nonneg hx hy, Int.mul_le_mul hx2 hy2 hy (Int.le_trans hx hx2)⟩
set_option maxHeartbeats 1600000 in
set_option maxRecDepth 100000 in
theorem apt_any (l : LI) (w : World) : Calls Try.prog 18 #[.agg (liA l)] w fun e w' => e = .returned (.bool (apB l)) ∧ Below w.heap.size w w' := by
  obtain ⟨ra, hra⟩ : ∃ x, l.ra = x := ⟨_, rfl⟩
  obtain ⟨it, hit⟩ : ∃ x, l.it = x := ⟨_, rfl⟩
  obtain ⟨by_, hby⟩ : ∃ x, l.by' = x := ⟨_, rfl⟩
  have HV : Hid (apB l = (decide (ra = 0) && (decide (2 ≤ it) && decide (2 ≤ by_)))) := by show _ = _; unfold apB; rw [hra, hit, hby]
  go_enter Try.func18, Try.ntmps18
  go_upto_region 1 with (first | (refine wpList_box_lmb (.tmp 0) rfl l rfl rfl ?_; intro O Y hO hA bY))
  have HB : Hid (Below w.heap.size w Y) := bY
  have c3 : Y.cell? ⟨O, 3, none⟩ = some (.int .i64 ra) := by rw [hA.cell 3, ← hra]; rfl
  have c1 : Y.cell? ⟨O, 1, none⟩ = some (.int .i64 it) := by rw [hA.cell 1, ← hit]; rfl
  have c2 : Y.cell? ⟨O, 2, none⟩ = some (.int .i64 by_) := by rw [hA.cell 2, ← hby]; rfl
  clear hO hA bY hra hit hby
  by_cases h1 : ra = 0
  · have f1 : decide (ra = 0) = true := decide_eq_true h1
    have f1' : (ra == 0) = true := by rw [beq_iff_eq]; exact h1
    by_cases h2 : 2 ≤ it
    · have f2 : decide (2 ≤ it) = true := decide_eq_true h2
      by_cases h3 : 2 ≤ by_
      · have f3 : decide (2 ≤ by_) = true := decide_eq_true h3
        clear h1 h2 h3
        rw [f1, f2, f3] at HV
        go_wp2
        go_ret
        exact ⟨by rw [HV.out]; rfl, HB.out⟩
      · have f3 : decide (2 ≤ by_) = false := decide_eq_false h3
        clear h1 h2 h3
        rw [f1, f2, f3] at HV
        go_wp2
        go_ret
        exact ⟨by rw [HV.out]; rfl, HB.out⟩
    · have f2 : decide (2 ≤ it) = false := decide_eq_false h2
      clear h1 h2
      rw [f1, f2] at HV
      go_wp2
      go_ret
      exact ⟨by rw [HV.out]; rfl, HB.out⟩
  · have f1 : decide (ra = 0) = false := decide_eq_false h1
    have f1' : (ra == 0) = false := by rw [beq_eq_false_iff_ne]; exact h1
    clear h1
    rw [f1] at HV
    go_wp2
    go_ret
    exact ⟨by rw [HV.out]; rfl, HB.out⟩
set_option maxHeartbeats 1600000 in
set_option maxRecDepth 100000 in
theorem none_any (N B : Nat) (lv bv sv : Value) (ms : List BM) (w : World) (h : BK N w B lv bv sv ms) (hM : ∀ m ∈ ms, m.M = []) (hn : ms.length ≤ 8) : Calls Try.prog 20 #[.pointer (some ⟨B, 0, none⟩)] w fun e w' => e = .returned (.bool true) ∧ w = w' := by
  obtain ⟨la, lc, hlv⟩ := h.l.form
  obtain ⟨n, hnn⟩ : ∃ n, n = ms.length := ⟨_, rfl⟩
  rw [← hnn] at hlv hn
  subst hlv
  have HS : Hid (BK N w B (.slice la n lc) bv sv ms ∧ (∀ m ∈ ms, m.M = []) ∧ n = ms.length) := ⟨h, hM, hnn⟩
  have c0 : w.cell? ⟨B, 0, none⟩ = some (.slice la n lc) := by rw [h.at'.cell 0]; rfl
  clear h hM hnn
  go_enter Try.func20, Try.ntmps20
  go_wp2_with fail
  go_loopw [3] (fun ix wr => ∃ k : Nat, ix = .int .i64 (k : Nat) ∧ k ≤ n ∧ w = wr) (fun ix _ => n - (intOf ix).toNat)
  case atStart => exact ⟨0, rfl, Nat.zero_le _, rfl⟩
  case round =>
    obtain ⟨k, rfl, hk, rfl⟩ := hrel
    by_cases hin : k < n
    · have p1 : decide ((k : Int) < (n : Int)) = true := decide_eq_true (by omega)
      have p2 : decide (k < n) = true := decide_eq_true hin
      have i0 : (0 : Int) ≤ (k : Int) := by omega
      have i1 : (k : Int) < (n : Int) := by omega
      have i2 : ((k : Int)).toNat = k := by omega
      have wk1 : IntKind.i64.wrap ((k : Int) + 1) = (k : Int) + 1 := i64_f _ (by omega) (by omega)
      obtain ⟨m, hm⟩ : ∃ m, ms[k]? = some m := ⟨_, List.getElem?_eq_getElem (by rw [← HS.out.2.2]; exact hin)⟩
      obtain ⟨g, cap, hv, _, _, hr⟩ := HS.out.1.l.at bmV_len k m hm
      simp only [Value.slice.injEq] at hv
      obtain ⟨rfl, hn_, hc_⟩ := hv
      clear hn_ hc_
      have c3 : w.cell? ⟨g, k, none⟩ = some (.slice m.a 0 m.c) := by
        have h1 := hr 0 m.v rfl
        rw [Nat.mul_one, Nat.add_zero] at h1
        rw [h1]
        unfold BM.v
        rw [HS.out.2.1 m (List.mem_of_getElem? hm)]
        rfl
      clear hr hm
      go_wp2
      go_roundw
      case rel => exact ⟨k + 1, by go_num, by omega, trivial⟩
      case measure => simp [intOf]; omega
    · have p1 : decide ((k : Int) < (n : Int)) = false := decide_eq_false (by omega)
      have p2 : decide (k < n) = false := decide_eq_false hin
      clear hin
      go_wp2
      go_ret
      exact ⟨rfl, rfl⟩
set_option maxHeartbeats 1600000 in
set_option maxRecDepth 100000 in
theorem fair_any (N B : Nat) (lv bv sv : Value) (ms : List BM) (a : Option Addr) (n c : Nat) (l2 : List LI) (w : World) (hb : BK N w B lv bv sv ms) (hl : ListG 5 liL LiW w a l2) (hn : l2.length = n) (hm : ms.length = n) (hn8 : n ≤ 8) (hq : ∀ l ∈ l2, 64 ≤ l.q ∧ l.q ≤ 65535) (hs : Sv 196605000 ms) (hf : ∀ (i j : Nat) (x y : LI) (p r : BM), l2[i]? = some x → l2[j]? = some y → ms[i]? = some p → ms[j]? = some r → apB x = true → apB y = true → p.s * y.q - r.s * x.q ≤ 2 * (x.q * y.q) + 65535 * (x.q + y.q)) : Calls Try.prog 22 #[.slice a n c, .pointer (some ⟨B, 0, none⟩)] w fun e w' => e = .returned (.bool true) ∧ Below w.heap.size w w' := by
  obtain ⟨sa, sc, hsv⟩ := hb.s.form
  rw [hm] at hsv
  subst hsv
  have HS : Hid (BK N w B lv bv (.slice sa n sc) ms ∧ ListG 5 liL LiW w a l2 ∧ l2.length = n ∧ ms.length = n ∧ (∀ l ∈ l2, 64 ≤ l.q ∧ l.q ≤ 65535) ∧ Sv 196605000 ms ∧ ∀ (i j : Nat) (x y : LI) (p r : BM), l2[i]? = some x → l2[j]? = some y → ms[i]? = some p → ms[j]? = some r → apB x = true → apB y = true → p.s * y.q - r.s * x.q ≤ 2 * (x.q * y.q) + 65535 * (x.q + y.q)) := ⟨hb, hl, hn, hm, hq, hs, hf⟩
  have HC : Hid (∀ A : World, Below w.heap.size w A → A.cell? ⟨B, 2, none⟩ = some (.slice sa n sc)) := fun A hA => by
    have h1 : w.cell? ⟨B, 2, none⟩ = some (.slice sa n sc) := by rw [hb.at'.cell 2]; rfl
    exact (hA.cell (p := ⟨B, 2, none⟩) (World.block_lt_of_cell? w _ h1)).trans h1
  clear hb hl hn hm hq hs hf
  go_enter Try.func22, Try.ntmps22
  go_wp2_with fail
  go_loopw [5] (fun ix wr => ∃ i : Nat, ix = .int .i64 (i : Nat) ∧ i ≤ n ∧ Hid (Below w.heap.size w wr)) (fun ix _ => n - (intOf ix).toNat)
  case atStart => exact ⟨0, rfl, Nat.zero_le _, Below.refl _ _⟩
  case round =>
    obtain ⟨i, rfl, hi, HI⟩ := hrel
    by_cases hini : i < n
    · have pi1 : decide ((i : Int) < (n : Int)) = true := decide_eq_true (by omega)
      have pi2 : decide (i < n) = true := decide_eq_true hini
      have ii0 : (0 : Int) ≤ (i : Int) := by omega
      have ii1 : (i : Int) < (n : Int) := by omega
      have ii2 : ((i : Int)).toNat = i := by omega
      have wi1 : IntKind.i64.wrap ((i : Int) + 1) = (i : Int) + 1 := i64_f _ (by omega) (by omega)
      go_wp2_with fail
      go_loopw [6] (fun jx wr => ∃ j : Nat, jx = .int .i64 (j : Nat) ∧ j ≤ n ∧ Hid (Below w.heap.size w wr)) (fun jx _ => n - (intOf jx).toNat)
      case atStart => exact ⟨0, rfl, Nat.zero_le _, HI.out⟩
      case round =>
        clear HI
        obtain ⟨j, rfl, hj, HJ⟩ := hrel
        by_cases hinj : j < n
        · have pj1 : decide ((j : Int) < (n : Int)) = true := decide_eq_true (by omega)
          have pj2 : decide (j < n) = true := decide_eq_true hinj
          have ij0 : (0 : Int) ≤ (j : Int) := by omega
          have ij1 : (j : Int) < (n : Int) := by omega
          have ij2 : ((j : Int)).toNat = j := by omega
          have wj1 : IntKind.i64.wrap ((j : Int) + 1) = (j : Int) + 1 := i64_f _ (by omega) (by omega)
          obtain ⟨x, hx⟩ : ∃ x, l2[i]? = some x := ⟨_, List.getElem?_eq_getElem (by rw [HS.out.2.2.1]; exact hini)⟩
          obtain ⟨y, hy⟩ : ∃ x, l2[j]? = some x := ⟨_, List.getElem?_eq_getElem (by rw [HS.out.2.2.1]; exact hinj)⟩
          obtain ⟨p, hp⟩ : ∃ x, ms[i]? = some x := ⟨_, List.getElem?_eq_getElem (by rw [HS.out.2.2.2.1]; exact hini)⟩
          obtain ⟨r, hr⟩ : ∃ x, ms[j]? = some x := ⟨_, List.getElem?_eq_getElem (by rw [HS.out.2.2.2.1]; exact hinj)⟩
          obtain ⟨_, g, off, ha, hlt, hcx⟩ := HS.out.2.1.at i x hx
          obtain ⟨_, g', off', ha', hlt', hcy⟩ := HS.out.2.1.at j y hy
          subst ha
          simp only [Option.some.injEq, Addr.mk.injEq, and_true] at ha'
          obtain ⟨rfl, rfl⟩ := ha'
          obtain ⟨gs, cap, hv, _, hgs, hrp⟩ := HS.out.1.s.at bmS_len i p hp
          obtain ⟨gs', cap', hv', _, _, hrr⟩ := HS.out.1.s.at bmS_len j r hr
          simp only [Value.slice.injEq] at hv
          obtain ⟨hsa, hn_, hc_⟩ := hv
          subst hsa
          simp only [Value.slice.injEq, Option.some.injEq, Addr.mk.injEq, and_true] at hv'
          obtain ⟨rfl, hn2_, hc2_⟩ := hv'
          clear hn_ hc_ hn2_ hc2_
          obtain ⟨xq, hxq⟩ : ∃ q, x.q = q := ⟨_, rfl⟩
          obtain ⟨yq, hyq⟩ : ∃ q, y.q = q := ⟨_, rfl⟩
          obtain ⟨ps, hps⟩ : ∃ q, p.s = q := ⟨_, rfl⟩
          obtain ⟨rs, hrs⟩ : ∃ q, r.s = q := ⟨_, rfl⟩
          have HRX : Hid (∀ A : World, Below w.heap.size w A → A.rangeAt g (off + i * 5) (liA x).toList) := fun A hA k u hk => by
            have hk5 : k < 5 := (List.getElem?_eq_some_iff.1 hk).1
            rw [hA.cell (p := ⟨g, off + i * 5 + k, none⟩) hlt, hcx k hk5]; exact hk
          have HRY : Hid (∀ A : World, Below w.heap.size w A → A.rangeAt g (off + j * 5) (liA y).toList) := fun A hA k u hk => by
            have hk5 : k < 5 := (List.getElem?_eq_some_iff.1 hk).1
            rw [hA.cell (p := ⟨g, off + j * 5 + k, none⟩) hlt, hcy k hk5]; exact hk
          have HCC : Hid (∀ A : World, Below w.heap.size w A → A.cell? ⟨g, off + i * 5, none⟩ = some (.int .i64 xq) ∧ A.cell? ⟨g, off + j * 5, none⟩ = some (.int .i64 yq) ∧ A.cell? ⟨gs, i, none⟩ = some (.int .i64 ps) ∧ A.cell? ⟨gs, j, none⟩ = some (.int .i64 rs)) := fun A hA => by
            have h1 := HRX.out A hA 0 (.int .i64 x.q) rfl
            have h2 := HRY.out A hA 0 (.int .i64 y.q) rfl
            have h3 := hrp 0 (.int .i64 p.s) rfl
            have h4 := hrr 0 (.int .i64 r.s) rfl
            rw [Nat.mul_one, Nat.add_zero] at h3 h4
            rw [hxq] at h1
            rw [hyq] at h2
            rw [hps] at h3
            rw [hrs] at h4
            exact ⟨h1, h2, (hA.cell (p := ⟨gs, i, none⟩) hgs).trans h3, (hA.cell (p := ⟨gs, j, none⟩) hgs).trans h4⟩
          have bx := HS.out.2.2.2.2.1 x (List.mem_of_getElem? hx)
          have by_ := HS.out.2.2.2.2.1 y (List.mem_of_getElem? hy)
          have bp := HS.out.2.2.2.2.2.1 p (List.mem_of_getElem? hp)
          have br := HS.out.2.2.2.2.2.1 r (List.mem_of_getElem? hr)
          rw [hxq] at bx
          rw [hyq] at by_
          rw [hps] at bp
          rw [hrs] at br
          have HFX : Hid (apB x = true → apB y = true → ps * yq - rs * xq ≤ 2 * xq * yq + 65535 * (xq + yq)) := fun h1 h2 => by
            have h3 := HS.out.2.2.2.2.2.2 i j x y p r hx hy hp hr h1 h2
            rw [hxq, hyq, hps, hrs] at h3
            rw [Int.mul_assoc]
            exact h3
          have m1 := mul_b bp.1 bp.2 (Int.le_trans (by decide) by_.1) by_.2
          have m2 := mul_b br.1 br.2 (Int.le_trans (by decide) bx.1) bx.2
          have m3 := mul_b (x := 2 * xq) (y := yq) (A := 131070) (B := 65535) (by omega) (by omega) (Int.le_trans (by decide) by_.1) by_.2
          have e1 : IntKind.i64.wrap (ps * yq) = ps * yq := i64_f _ (by omega) (by omega)
          have e2 : IntKind.i64.wrap (rs * xq) = rs * xq := i64_f _ (by omega) (by omega)
          have e3 : IntKind.i64.wrap (ps * yq - rs * xq) = ps * yq - rs * xq := i64_f _ (by omega) (by omega)
          have e4 : IntKind.i64.wrap (2 * xq) = 2 * xq := i64_f _ (by omega) (by omega)
          have e5 : IntKind.i64.wrap (2 * xq * yq) = 2 * xq * yq := i64_f _ (by omega) (by omega)
          have e6 : IntKind.i64.wrap (xq + yq) = xq + yq := i64_f _ (by omega) (by omega)
          have e7 : IntKind.i64.wrap (65535 * (xq + yq)) = 65535 * (xq + yq) := i64_f _ (by omega) (by omega)
          have e8 : IntKind.i64.wrap (2 * xq * yq + 65535 * (xq + yq)) = 2 * xq * yq + 65535 * (xq + yq) := i64_f _ (by omega) (by omega)
          clear hx hy hp hr hcx hcy hrp hrr hxq hyq hps hrs m1 m2 m3 bx by_ bp br hlt hlt' hgs
          have QX : Hid _ := apt_any x wr
          go_wp2_with (first | (refine wpList_mid_lim (.tmp 21) rfl g (off + i * 5) x rfl (HRX.out wr HJ.out) rfl ?_))
          refine Calls.mono QX.out ?_
          rintro ez w1 ⟨rfl, b1⟩
          clear QX
          have HB1 : Hid (Below w.heap.size w w1) := HJ.out.trans (b1.mono HJ.out.size)
          clear b1
          cases hax : apB x with
          | false =>
            go_wp2
            go_roundw
            case rel => exact ⟨j + 1, by go_num, by omega, HB1.out⟩
            case measure => simp [intOf]; omega
          | true =>
            have QY : Hid _ := apt_any y w1
            go_wp2_with (first | (refine wpList_mid_lim (.tmp 28) rfl g (off + j * 5) y rfl (HRY.out w1 HB1.out) rfl ?_))
            refine Calls.mono QY.out ?_
            rintro ez w2 ⟨rfl, b2⟩
            clear QY
            have HB2 : Hid (Below w.heap.size w w2) := HB1.out.trans (b2.mono HB1.out.size)
            clear b2
            cases hay : apB y with
            | false =>
              go_wp2
              go_roundw
              case rel => exact ⟨j + 1, by go_num, by omega, HB2.out⟩
              case measure => simp [intOf]; omega
            | true =>
              have hfx := HFX.out hax hay
              have e9 : decide (2 * xq * yq + 65535 * (xq + yq) < ps * yq - rs * xq) = false := decide_eq_false (by omega)
              clear hfx hax hay
              go_upto_region 8 with fail
              refine MixH.start (fun A => Below w.heap.size w A) (by kernel_rfl) ?_
              obtain ⟨wA, hwA⟩ : ∃ W_, W_ = w2.drew := ⟨_, rfl⟩
              have bdr : Below w2.heap.size w2 wA := by rw [hwA]; exact (Below.refl _ _).drew
              have hS : Below w.heap.size w wA := HB2.out.trans (bdr.mono HB2.out.size)
              rw [← hwA]
              clear hwA bdr
              refine MixH.takes [true, true, true, false, true, false, false, true, true, true, true, false, false, true, true, true, false, true, false, false, true, true, true, true, false, false, false, true, true, true, true, false, false, true, true, true, true, false, false, true, true, true, true, false, true, true, true, true] 21 (by kernel_rfl) (by kernel_rfl) (by decide) (by kernel_rfl) hS (fun K hK => ?_)
              simp only [Mix.pick]
              repeat (go_big_quiet_step (fail))
              refine wpQuiet_nil (hK _ ?_)
              clear hK K
              refine MixH.take 20 3 _ (.slice (some ⟨gs, 0, none⟩) n sc) rfl (by kernel_rfl) (by kernel_rfl) (by kernel_rfl) (by kernel_rfl) (yields_bkn (.tmp 35) rfl ⟨B, 2, none⟩ (.slice (some ⟨gs, 0, none⟩) n sc) rfl rfl (fun A hA => HC.out A hA)) hS (fun a' ha => ?_)
              simp only [Act.put, List.setIfInBounds_toArray, List.set_cons_succ, List.set_cons_zero] at ha
              subst ha
              refine MixH.takes [false, false, false, false, false, true] 19 (by kernel_rfl) (by kernel_rfl) (by decide) (by kernel_rfl) hS (fun K hK => ?_)
              simp only [Mix.pick]
              repeat (go_big_quiet_step (fail))
              refine wpQuiet_nil (hK _ ?_)
              clear hK K
              refine MixH.take 18 6 _ (.int .i64 ps) rfl (by kernel_rfl) (by kernel_rfl) (by kernel_rfl) (by kernel_rfl) (yields_int (.tmp 38) rfl ⟨gs, i, none⟩ (.int .i64 ps) rfl rfl (fun A hA => (HCC.out A hA).2.2.1)) hS (fun a' ha => ?_)
              simp only [Act.put, List.setIfInBounds_toArray, List.set_cons_succ, List.set_cons_zero] at ha
              subst ha
              refine MixH.take 17 11 _ (.int .i64 yq) rfl (by kernel_rfl) (by kernel_rfl) (by kernel_rfl) (by kernel_rfl) (yields_int (.tmp 43) rfl ⟨g, off + j * 5, none⟩ (.int .i64 yq) rfl rfl (fun A hA => (HCC.out A hA).2.1)) hS (fun a' ha => ?_)
              simp only [Act.put, List.setIfInBounds_toArray, List.set_cons_succ, List.set_cons_zero] at ha
              subst ha
              refine MixH.takes [false, false, false, false, false, false, false, false, false, false, false, false, true] 16 (by kernel_rfl) (by kernel_rfl) (by decide) (by kernel_rfl) hS (fun K hK => ?_)
              simp only [Mix.pick]
              repeat (go_big_quiet_step (fail))
              refine wpQuiet_nil (hK _ ?_)
              clear hK K
              refine MixH.take 15 16 _ (.slice (some ⟨gs, 0, none⟩) n sc) rfl (by kernel_rfl) (by kernel_rfl) (by kernel_rfl) (by kernel_rfl) (yields_bkn (.tmp 48) rfl ⟨B, 2, none⟩ (.slice (some ⟨gs, 0, none⟩) n sc) rfl rfl (fun A hA => HC.out A hA)) hS (fun a' ha => ?_)
              simp only [Act.put, List.setIfInBounds_toArray, List.set_cons_succ, List.set_cons_zero] at ha
              subst ha
              refine MixH.takes [false, false, false, false, false, false, false, false, false, false, false, false, false, false, false, false, false, false, true] 14 (by kernel_rfl) (by kernel_rfl) (by decide) (by kernel_rfl) hS (fun K hK => ?_)
              simp only [Mix.pick]
              repeat (go_big_quiet_step (fail))
              refine wpQuiet_nil (hK _ ?_)
              clear hK K
              refine MixH.take 13 19 _ (.int .i64 rs) rfl (by kernel_rfl) (by kernel_rfl) (by kernel_rfl) (by kernel_rfl) (yields_int (.tmp 51) rfl ⟨gs, j, none⟩ (.int .i64 rs) rfl rfl (fun A hA => (HCC.out A hA).2.2.2)) hS (fun a' ha => ?_)
              simp only [Act.put, List.setIfInBounds_toArray, List.set_cons_succ, List.set_cons_zero] at ha
              subst ha
              refine MixH.take 12 24 _ (.int .i64 xq) rfl (by kernel_rfl) (by kernel_rfl) (by kernel_rfl) (by kernel_rfl) (yields_int (.tmp 56) rfl ⟨g, off + i * 5, none⟩ (.int .i64 xq) rfl rfl (fun A hA => (HCC.out A hA).1)) hS (fun a' ha => ?_)
              simp only [Act.put, List.setIfInBounds_toArray, List.set_cons_succ, List.set_cons_zero] at ha
              subst ha
              refine MixH.takes [false, false, false, false, false, false, false, false, false, false, false, false, false, false, false, false, false, false, false, false, false, false, false, false, false, true, true] 10 (by kernel_rfl) (by kernel_rfl) (by decide) (by kernel_rfl) hS (fun K hK => ?_)
              simp only [Mix.pick]
              repeat (go_big_quiet_step (fail))
              refine wpQuiet_nil (hK _ ?_)
              clear hK K
              refine MixH.take 9 31 _ (.int .i64 xq) rfl (by kernel_rfl) (by kernel_rfl) (by kernel_rfl) (by kernel_rfl) (yields_int (.tmp 63) rfl ⟨g, off + i * 5, none⟩ (.int .i64 xq) rfl rfl (fun A hA => (HCC.out A hA).1)) hS (fun a' ha => ?_)
              simp only [Act.put, List.setIfInBounds_toArray, List.set_cons_succ, List.set_cons_zero] at ha
              subst ha
              refine MixH.takes [false, false, false, false, false, false, false, false, false, false, false, false, false, false, false, false, false, false, false, false, false, false, false, false, false, false, false, false, false, false, false, false, true] 8 (by kernel_rfl) (by kernel_rfl) (by decide) (by kernel_rfl) hS (fun K hK => ?_)
              simp only [Mix.pick]
              repeat (go_big_quiet_step (fail))
              refine wpQuiet_nil (hK _ ?_)
              clear hK K
              refine MixH.take 7 37 _ (.int .i64 yq) rfl (by kernel_rfl) (by kernel_rfl) (by kernel_rfl) (by kernel_rfl) (yields_int (.tmp 69) rfl ⟨g, off + j * 5, none⟩ (.int .i64 yq) rfl rfl (fun A hA => (HCC.out A hA).2.1)) hS (fun a' ha => ?_)
              simp only [Act.put, List.setIfInBounds_toArray, List.set_cons_succ, List.set_cons_zero] at ha
              subst ha
              refine MixH.takes [false, false, false, false, false, false, false, false, false, false, false, false, false, false, false, false, false, false, false, false, false, false, false, false, false, false, false, false, false, false, false, false, false, false, false, false, false, false, true] 6 (by kernel_rfl) (by kernel_rfl) (by decide) (by kernel_rfl) hS (fun K hK => ?_)
              simp only [Mix.pick]
              repeat (go_big_quiet_step (fail))
              refine wpQuiet_nil (hK _ ?_)
              clear hK K
              refine MixH.take 5 43 _ (.int .i64 xq) rfl (by kernel_rfl) (by kernel_rfl) (by kernel_rfl) (by kernel_rfl) (yields_int (.tmp 75) rfl ⟨g, off + i * 5, none⟩ (.int .i64 xq) rfl rfl (fun A hA => (HCC.out A hA).1)) hS (fun a' ha => ?_)
              simp only [Act.put, List.setIfInBounds_toArray, List.set_cons_succ, List.set_cons_zero] at ha
              subst ha
              refine MixH.take 4 48 _ (.int .i64 yq) rfl (by kernel_rfl) (by kernel_rfl) (by kernel_rfl) (by kernel_rfl) (yields_int (.tmp 80) rfl ⟨g, off + j * 5, none⟩ (.int .i64 yq) rfl rfl (fun A hA => (HCC.out A hA).2.1)) hS (fun a' ha => ?_)
              simp only [Act.put, List.setIfInBounds_toArray, List.set_cons_succ, List.set_cons_zero] at ha
              subst ha
              refine MixH.takes [false, false, false, false, false, false, false, false, false, false, false, false, false, false, false, false, false, false, false, false, false, false, false, false, false, false, false, false, false, false, false, false, false, false, false, false, false, false, false, false, false, false, false, false, false, false, false, false, false, true, true, true, true] 0 (by kernel_rfl) (by kernel_rfl) (by decide) (by kernel_rfl) hS (fun K hK => ?_)
              simp only [Mix.pick]
              repeat (go_big_quiet_step (fail))
              refine wpQuiet_nil (hK _ ?_)
              clear hK K
              refine MixH.done (by kernel_rfl) ?_

              have HB3 : Hid (Below w.heap.size w wA) := hS
              clear hS
              go_wp2
              go_roundw
              case rel => exact ⟨j + 1, by go_num, by omega, HB3.out⟩
              case measure => simp [intOf]; omega
        · have pj1 : decide ((j : Int) < (n : Int)) = false := decide_eq_false (by omega)
          have pj2 : decide (j < n) = false := decide_eq_false hinj
          clear hinj
          go_wp2
          go_roundw
          case rel => exact ⟨i + 1, by go_num, by omega, HJ.out⟩
          case measure => simp [intOf]; omega
    · have pi1 : decide ((i : Int) < (n : Int)) = false := decide_eq_false (by omega)
      have pi2 : decide (i < n) = false := decide_eq_false hini
      clear hini
      go_wp2
      go_ret
      exact ⟨rfl, HI.out⟩
end Go.Proofs.Ytclkcpdghpaboaa
