/-
  The document's Pseudo.
-/
import Derived.Test.YtkhalknpfikghaaDoorI8Ps3
namespace Go.Proofs.YtkhalknpfikghaaDoor
open Go.RowKit

theorem verOf_ok (V U : Int) (x y : Nat → Nat) : psOk V U x y = true ↔ verOf V x ≠ 0 ∧ verOf U y = verOf V x := by
  unfold psOk verOf isAddr
  by_cases h6 : V = 6 <;> by_cases g6 : U = 6 <;> by_cases h4 : V = 4 <;> by_cases g4 : U = 4 <;> cases hx : restZ x <;> cases hy : restZ y <;> simp_all <;> omega
theorem verOf_eq (V : Int) (x : Nat → Nat) (h : verOf V x ≠ 0) : verOf V x = V := by
  unfold verOf at *
  split at h
  · rw [if_pos (by assumption)]; omega
  · rw [if_neg (by assumption)]
    split at h
    · rename_i h1; rw [if_pos h1]; exact h1.2.symm
    · exact absurd rfl h
theorem psIn_no {p n : Int} (h : p < 0 ∨ 255 < p ∨ n < 0 ∨ 65535 < n) : psIn p n = false := by simp [psIn]; omega
theorem psIn_yes {p n : Int} (h1 : 0 ≤ p) (h2 : p ≤ 255) (h3 : 0 ≤ n) (h4 : n ≤ 65535) : psIn p n = true := by simp [psIn]; omega
theorem Boxed.low {w w' : World} {B L : Nat} {V : Int} {x : Nat → Nat} (h : Boxed w B V x) (hb : Below L w w') (hB : B < L) : Boxed w' B V x :=
  ⟨(hb.cell (p := ⟨B, 0, none⟩) hB).trans h.ver, fun i hi => (hb.cell (p := ⟨B, 1 + i, none⟩) hB).trans (h.byte i hi)⟩
theorem owns_base {w : World} {b b' : Nat} {e : TypeId} {v : Value} {n : Nat} {xs : List Value} (h : w.ownsRow b e 1 v n xs) (hb : ∀ g, v.ownBlock = some g → b' ≤ g) : w.ownsRow b' e 1 v n xs := by
  refine ⟨h.1, ?_⟩
  rcases h.2 with h2 | ⟨g, cap, cur, rfl, hg, r⟩
  · exact .inl h2
  · exact .inr ⟨g, cap, cur, rfl, hb g rfl, r⟩
theorem ipL_succ (x : Nat → Nat) (k : Nat) : ipL x (k + 1) = ipL x k ++ [x k] := by simp [ipL, List.range_succ]
set_option maxHeartbeats 3200000 in
set_option maxRecDepth 100000 in
theorem rpseudo_any (V U : Int) (x y : Nat → Nat) (p n : Int) (w : World) :
    Calls Tryd.prog 51 #[.agg (ipCells V x), .agg (ipCells U y), .int .i64 p, .int .i64 n] w fun e w' => ∃ v, e = .returned (.tuple #[v, .int .i64 (psE V U x y p n)]) ∧ OwnB w' w.heap.size v (psL V U x y p n).length (psL V U x y p n) ∧ Below w.heap.size w w' := by
  obtain ⟨i0, hi, hz0, hz1, hz2⟩ := info_parts Tryd.infoByte
  have hx1 := boxed_new w V x 24
  have hy1 := boxed_new (w.alloc (.cells (ipCells V x) 24)) U y 24
  have hb1 : Below w.heap.size w ((w.alloc (.cells (ipCells V x) 24)).alloc (.cells (ipCells U y) 24)) := ((Below.refl _ _).alloc (Nat.le_refl _) _).alloc (by simp) _
  have hx2 := hx1.old ((Below.refl _ _).alloc (Nat.le_refl _) (.cells (ipCells U y) 24))
  clear hx1
  rw [World.size_alloc] at hy1
  obtain ⟨A, hA⟩ : ∃ A, A = ipCells V x := ⟨_, rfl⟩
  obtain ⟨C, hC⟩ : ∃ C, C = ipCells U y := ⟨_, rfl⟩
  rw [← hA] at hx2 hy1 hb1 ⊢
  rw [← hC] at hx2 hy1 hb1 ⊢
  have HA : Hid (A = ipCells V x) := hA
  have HC : Hid (C = ipCells U y) := hC
  clear hA hC
  go_enter Tryd.func51, Tryd.ntmps51
  go_upto_region 1 with fail
  obtain ⟨W, hW⟩ : ∃ W, W = (w.alloc (.cells A 24)).alloc (.cells C 24) := ⟨_, rfl⟩
  rw [← hW] at hx2 hy1 hb1 ⊢
  clear hW
  obtain ⟨B, hB⟩ : ∃ B, B = w.heap.size := ⟨_, rfl⟩
  have HB : Hid (w.heap.size = B) := hB.symm
  rw [← hB] at hx2 hy1 ⊢
  clear hB
  obtain ⟨vx, hvx⟩ : ∃ v, v = verOf V x := ⟨_, rfl⟩
  obtain ⟨vy, hvy⟩ : ∃ v, v = verOf U y := ⟨_, rfl⟩
  have HVX : Hid (verOf V x = vx) := hvx.symm
  have HVY : Hid (verOf U y = vy) := hvy.symm
  clear hvx hvy
  have HOK : Hid (psOk V U x y = true ↔ vx ≠ 0 ∧ vy = vx) := by rw [← HVX.out, ← HVY.out]; exact verOf_ok V U x y
  have HEQ : Hid (vx ≠ 0 → vx = V) := fun h => by rw [← HVX.out] at *; exact verOf_eq V x h
  go_cut [10] (fun s10 wx => s10 = .int .i64 vx ∧ Boxed wx B V x ∧ Boxed wx (B + 1) U y ∧ Below w.heap.size w wx)
  case first =>
    go_wp2_with (first | (refine wpList_load_ip (.tmp 4) rfl B V x rfl hx2 rfl ?_))
    refine (version_any V x _).mono ?_
    rintro e w1 ⟨rfl, hb2⟩
    rw [HVX.out]
    have hx3 := hx2.old hb2
    have hy3 := hy1.old hb2
    have hb02 := hb1.trans (hb2.mono hb1.size)
    go_wp2
    go_meet
    exact ⟨rfl, hx3, hy3, hb02⟩
  case rest =>
  obtain ⟨rfl, hx3, hy3, hb02⟩ := hcut
  obtain ⟨w1, hw1⟩ : ∃ w1, w1 = wc := ⟨_, rfl⟩
  rw [← hw1] at hx3 hy3 hb02 ⊢
  clear hw1 hx2 hy1 hb1
  go_upto_region 2 with fail
  go_cut [23] (fun s23 wx => s23 = .bool (!psOk V U x y) ∧ Boxed wx B V x ∧ Boxed wx (B + 1) U y ∧ Below w.heap.size w wx)
  case first =>
    by_cases hz : vx = 0
    · have hzz : (vx == 0) = true := by simp [hz]
      have hps : psOk V U x y = false := by cases h : psOk V U x y; rfl; exact absurd hz (HOK.out.1 h).1
      go_wp2
      go_meet
      exact ⟨by rw [hps]; rfl, hx3, hy3, hb02⟩
    · have hzz : (vx == 0) = false := by simpa using hz
      go_wp2_with (first | (refine wpList_load_ip (.tmp 5) rfl (B + 1) U y rfl hy3 rfl ?_))
      refine (version_any U y _).mono ?_
      rintro e w2 ⟨rfl, hb3⟩
      rw [HVY.out]
      have hx4 := hx3.old hb3
      have hy4 := hy3.old hb3
      have hb03 := hb02.trans (hb3.mono hb02.size)
      by_cases hxy : vy = vx
      · subst hxy
        have hne : (vy != vy) = false := by simp
        have hps : psOk V U x y = true := HOK.out.2 ⟨hz, rfl⟩
        go_wp2
        go_meet
        exact ⟨by rw [hps]; rfl, hx4, hy4, hb03⟩
      · have hne : (vy != vx) = true := by simpa using hxy
        have hps : psOk V U x y = false := by cases h : psOk V U x y; rfl; exact absurd (HOK.out.1 h).2 hxy
        go_wp2
        go_meet
        exact ⟨by rw [hps]; rfl, hx4, hy4, hb03⟩
  case rest =>
  obtain ⟨rfl, hx4, hy4, hb3⟩ := hcut
  clear hx3 hy3 hb02
  cases hps : psOk V U x y with
  | false =>
    go_wp2
    go_ret2
    have e1 : psL V U x y p n = [] := by simp [psL, hps]
    rw [e1]
    exact ⟨_, ps_ret (by simp [psE, hps]), World.ownsRow_nil _ _ _ _, hb3⟩
  | true =>
  obtain rfl : vx = V := HEQ.out (HOK.out.1 hps).1
  go_upto_region 4 with fail
  go_cut [37] (fun s wx => s = .bool (!psIn p n) ∧ wx = wc)
  case first =>
    by_cases hp0 : p < 0
    · go_wp2
      go_meet
      exact ⟨by rw [psIn_no (.inl hp0)]; rfl, rfl⟩
    · by_cases hp1 : 255 < p
      · go_wp2
        go_meet
        exact ⟨by rw [psIn_no (.inr (.inl hp1))]; rfl, rfl⟩
      · by_cases hn0 : n < 0
        · go_wp2
          go_meet
          exact ⟨by rw [psIn_no (.inr (.inr (.inl hn0)))]; rfl, rfl⟩
        · by_cases hn1 : 65535 < n
          · go_wp2
            go_meet
            exact ⟨by rw [psIn_no (.inr (.inr (.inr hn1)))]; rfl, rfl⟩
          · go_wp2
            go_meet
            exact ⟨by rw [psIn_yes hp0 hp1 hn0 hn1]; rfl, rfl⟩
  case rest =>
  obtain ⟨rfl, rfl⟩ := hcut
  cases hpi : psIn p n with
  | false =>
    go_wp2
    go_ret2
    have e1 : psL vx U x y p n = [] := by simp [psL, hpi]
    rw [e1]
    exact ⟨_, ps_ret (by simp [psE, hps, hpi]), World.ownsRow_nil _ _ _ _, hb3⟩
  | true =>
    have hr : 0 ≤ p ∧ p ≤ 255 ∧ 0 ≤ n ∧ n ≤ 65535 := by simpa [psIn] using hpi
    have HE : Hid (psE vx U x y p n = 0) := by show _ = _; simp [psE, hps, hpi]
    obtain ⟨P, rfl⟩ : ∃ P : Nat, p = P := ⟨p.toNat, by omega⟩
    obtain ⟨N, rfl⟩ : ∃ N : Nat, n = N := ⟨n.toNat, by omega⟩
    have hP : P ≤ 255 := by omega
    have hN : N ≤ 65535 := by omega
    have hh : IntKind.u8.wrap ((N : Int) / 256) = ((N / 256 : Nat) : Int) := u8_hi N hN
    have hl : IntKind.u8.wrap ((N : Int) % 256) = ((N % 256 : Nat) : Int) := by
      have e : ((N : Int) % 256) = ((N % 256 : Nat) : Int) := by omega
      rw [e, u8_lo]; omega
    have hk : IntKind.u8.wrap (P : Int) = (P : Int) := by rw [u8_lo]; omega
    obtain ⟨h, hhe⟩ : ∃ h, h = N / 256 := ⟨_, rfl⟩
    obtain ⟨l, hle⟩ : ∃ l, l = N % 256 := ⟨_, rfl⟩
    rw [← hhe] at hh
    rw [← hle] at hl
    have HHL : Hid (h = N / 256 ∧ l = N % 256) := ⟨hhe, hle⟩
    clear hhe hle hr
    by_cases h4 : vx = 4
    · have HL : Hid (psL vx U x y P N = [x 0, x 1, x 2, x 3, y 0, y 1, y 2, y 3] ++ [0, P, h, l]) := by
        show _ = _
        rw [psL, hps, hpi, h4, HHL.out.1, HHL.out.2]
        simp [ipL, List.range_succ]
      subst h4
      clear hpi hps
      have x0 := hx4.byte 0 (by decide)
      have x1 := hx4.byte 1 (by decide)
      have x2 := hx4.byte 2 (by decide)
      have x3 := hx4.byte 3 (by decide)
      have y0 := hy4.byte 0 (by decide)
      have y1 := hy4.byte 1 (by decide)
      have y2 := hy4.byte 2 (by decide)
      have y3 := hy4.byte 3 (by decide)
      have hnil := World.ownsRow_nil wc w.heap.size 5 1
      go_wp2_with (first | (at_builtin; refine wpList_append_own _ rfl (.tmp 40) (.tmp 65) 25 rfl w.heap.size 5 i0 (.int .u8 0) 1 1 Tryd.underlying25 hi hz0 hz1 hz2 rfl (by decide) _ _ _ rfl (hnil.alloc _) ⟨wc.heap.size, 0, none⟩ 8 8 [.int .u8 (x 0 : Nat), .int .u8 (x 1 : Nat), .int .u8 (x 2 : Nat), .int .u8 (x 3 : Nat), .int .u8 (y 0 : Nat), .int .u8 (y 1 : Nat), .int .u8 (y 2 : Nat), .int .u8 (y 3 : Nat)] rfl rfl (news_new _ _ _) (by intro u hu; simp only [List.mem_cons, List.not_mem_nil, or_false] at hu; rcases hu with rfl | rfl | rfl | rfl | rfl | rfl | rfl | rfl <;> rfl) (by unfold maxLen; omega) (by omega) (by have := hb3.size; simp; omega) ?_))
      intro v2 w2 ho2' hg2 _
      have ho2 : OwnB w2 w.heap.size v2 8 [x 0, x 1, x 2, x 3, y 0, y 1, y 2, y 3] := by simpa [OwnB, toI] using ho2'
      have hb5 : Below w.heap.size w w2 := (hb3.alloc hb3.size _).grown hg2 (by have := hb3.size; simp; omega) (by intro k hk; simp [Value.ownBlock] at hk)
      obtain ⟨a2, c2, rfl⟩ := owns_shape ho2
      clear ho2' hg2 x0 x1 x2 x3 y0 y1 y2 y3 hnil
      go_wp2_with (first | (at_builtin; refine wpList_append_own _ rfl (.tmp 67) (.tmp 76) 25 rfl w.heap.size 5 i0 (.int .u8 0) 1 1 Tryd.underlying25 hi hz0 hz1 hz2 rfl (by decide) _ _ _ rfl (ho2.alloc _) ⟨w2.heap.size, 0, none⟩ 4 4 [.int .u8 0, .int .u8 (P : Int), .int .u8 (h : Int), .int .u8 (l : Int)] rfl rfl (news_new _ _ _) (by intro u hu; simp only [List.mem_cons, List.not_mem_nil, or_false] at hu; rcases hu with rfl | rfl | rfl | rfl <;> rfl) (by unfold maxLen; omega) (by omega) (by have := hb5.size; simp; omega) ?_))
      intro v3 w3 ho3' hg3 _
      have ho3 : OwnB w3 w.heap.size v3 12 ([x 0, x 1, x 2, x 3, y 0, y 1, y 2, y 3] ++ [0, P, h, l]) := by simpa [OwnB, toI] using ho3'
      have hb6 : Below w.heap.size w w3 := (hb5.alloc hb5.size _).grown hg3 (by have := hb5.size; simp; omega) (fun j hj => (ho2.lt j hj).1)
      obtain ⟨a3, c3, rfl⟩ := owns_shape ho3
      clear ho3' hg3
      go_wp2
      go_ret2
      rw [HL.out]
      exact ⟨_, ps_ret (by rw [HE.out]), ho3, hb6⟩
    · have h4' : (vx == 4) = false := by simpa using h4
      have HL : Hid (psL vx U x y P N = ipL x 16 ++ ipL y 16 ++ [0, 0, h, l, 0, 0, 0, P]) := by
        show _ = _
        rw [psL, hps, hpi, if_neg h4, HHL.out.1, HHL.out.2]
        simp
      have HBB : Hid (B < wc.heap.size ∧ B + 1 < wc.heap.size) := ⟨World.block_lt_of_cell? wc _ hx4.ver, World.block_lt_of_cell? wc _ hy4.ver⟩
      clear hpi hps
      go_wp2
      go_loopw [11, 12] (fun v ix wr => ∃ k : Nat, k ≤ 16 ∧ ix = .int .i64 k ∧ OwnB wr w.heap.size v k (ipL x k) ∧ Hid (∀ g, v.ownBlock = some g → wc.heap.size ≤ g) ∧ Boxed wr B vx x ∧ Boxed wr (B + 1) U y ∧ Below w.heap.size w wr ∧ wc.heap.size ≤ wr.heap.size) (fun _ ix _ => 16 - (intOf ix).toNat)
      case atStart => exact ⟨0, by omega, rfl, by simpa [ipL, OwnB, toI] using World.ownsRow_nil wc w.heap.size 5 1, (fun g hg => by simp [Value.ownBlock] at hg), hx4, hy4, hb3, Nat.le_refl _⟩
      case round =>
        obtain ⟨k, hk, rfl, hor, HOW, hxr, hyr, hbr, hsz⟩ := hrel
        by_cases hlt : k < 16
        · have hc := hxr.byte k hlt
          have hst : (toI (ipL x (k + 1))).map (Value.int .u8) = (toI (ipL x k)).map (Value.int .u8) ++ [.int .u8 (x k : Nat)] := by rw [ipL_succ x k]; simp [toI]
          obtain ⟨q, hq⟩ : ∃ q, q = x k := ⟨_, rfl⟩
          rw [← hq] at hc hst
          have HST : Hid _ := hst
          have hor2 := owns_base hor HOW.out
          clear hst hq
          go_wp2_with (first | (at_builtin; refine wpList_append_own _ rfl (.tmp 82) (.tmp 87) 25 rfl wc.heap.size 5 i0 (.int .u8 0) 1 1 Tryd.underlying25 hi hz0 hz1 hz2 rfl (by decide) _ _ _ rfl (hor2.alloc _) ⟨wr.heap.size, 0, none⟩ 1 1 [.int .u8 (q : Nat)] rfl rfl (news_new _ _ _) (by intro u hu; simp only [List.mem_cons, List.not_mem_nil, or_false] at hu; subst hu; rfl) (by unfold maxLen; omega) (by omega) (by simp; omega) ?_))
          intro v1 w1 ho1 hg1 _
          have hb4 : Below w.heap.size w w1 := (hbr.alloc hbr.size _).grown hg1 (by have := hbr.size; simp; omega) (fun j hj => (hor.lt j hj).1)
          have hbx : Below wc.heap.size wr w1 := ((Below.refl _ _).alloc hsz _).grown hg1 (by simp; omega) (fun j hj => HOW.out j hj)
          rw [← HST.out] at ho1
          have hx5 := hxr.low hbx HBB.out.1
          have hy5 := hyr.low hbx HBB.out.2
          have hs5 := hg1.size
          have ho5 : OwnB w1 w.heap.size v1 (k + 1) (ipL x (k + 1)) := owns_mono ho1 hb3.size
          have HOW5 : Hid (∀ g, v1.ownBlock = some g → wc.heap.size ≤ g) := fun g hg => (ho1.lt g hg).1
          clear hg1 hor hor2 hxr hyr hbr ho1
          go_wp2
          go_roundw
          case rel => exact ⟨k + 1, by omega, by go_num, ho5, HOW5, hx5, hy5, hb4, by simp at hs5; omega⟩
          case measure => simp [intOf]; omega
        · have ek : k = 16 := by omega
          rw [ek] at hor
          clear ek
          go_wp2
          go_loopw [11, 13] (fun v ix wr => ∃ k : Nat, k ≤ 16 ∧ ix = .int .i64 k ∧ OwnB wr w.heap.size v (16 + k) (ipL x 16 ++ ipL y k) ∧ Hid (∀ g, v.ownBlock = some g → wc.heap.size ≤ g) ∧ Boxed wr B vx x ∧ Boxed wr (B + 1) U y ∧ Below w.heap.size w wr ∧ wc.heap.size ≤ wr.heap.size) (fun _ ix _ => 16 - (intOf ix).toNat)
          case atStart => exact ⟨0, by omega, rfl, by simpa [ipL, OwnB, toI] using hor, HOW, hxr, hyr, hbr, hsz⟩
          case round =>
            obtain ⟨k, hk, rfl, hor, HOW, hxr, hyr, hbr, hsz⟩ := hrel
            by_cases hlt : k < 16
            · have hc := hyr.byte k hlt
              have hst : (toI (ipL x 16 ++ ipL y (k + 1))).map (Value.int .u8) = (toI (ipL x 16 ++ ipL y k)).map (Value.int .u8) ++ [.int .u8 (y k : Nat)] := by rw [ipL_succ y k]; simp [toI]
              obtain ⟨q, hq⟩ : ∃ q, q = y k := ⟨_, rfl⟩
              rw [← hq] at hc hst
              have HST : Hid _ := hst
              have hor2 := owns_base hor HOW.out
              clear hst hq
              go_wp2_with (first | (at_builtin; refine wpList_append_own _ rfl (.tmp 93) (.tmp 98) 25 rfl wc.heap.size 5 i0 (.int .u8 0) 1 1 Tryd.underlying25 hi hz0 hz1 hz2 rfl (by decide) _ _ _ rfl (hor2.alloc _) ⟨wr.heap.size, 0, none⟩ 1 1 [.int .u8 (q : Nat)] rfl rfl (news_new _ _ _) (by intro u hu; simp only [List.mem_cons, List.not_mem_nil, or_false] at hu; subst hu; rfl) (by unfold maxLen; omega) (by omega) (by simp; omega) ?_))
              intro v1 w1 ho1 hg1 _
              have hb4 : Below w.heap.size w w1 := (hbr.alloc hbr.size _).grown hg1 (by have := hbr.size; simp; omega) (fun j hj => (hor.lt j hj).1)
              have hbx : Below wc.heap.size wr w1 := ((Below.refl _ _).alloc hsz _).grown hg1 (by simp; omega) (fun j hj => HOW.out j hj)
              rw [← HST.out] at ho1
              have hx5 := hxr.low hbx HBB.out.1
              have hy5 := hyr.low hbx HBB.out.2
              have hs5 := hg1.size
              have ho5 : OwnB w1 w.heap.size v1 (16 + (k + 1)) (ipL x 16 ++ ipL y (k + 1)) := owns_mono ho1 hb3.size
              have HOW5 : Hid (∀ g, v1.ownBlock = some g → wc.heap.size ≤ g) := fun g hg => (ho1.lt g hg).1
              clear hg1 hor hor2 hxr hyr hbr ho1
              go_wp2
              go_roundw
              case rel => exact ⟨k + 1, by omega, by go_num, ho5, HOW5, hx5, hy5, hb4, by simp at hs5; omega⟩
              case measure => simp [intOf]; omega
            · obtain rfl : k = 16 := by omega
              have ho2 := hor
              go_wp2_with (first | (at_builtin; refine wpList_append_own _ rfl (.tmp 100) (.tmp 109) 25 rfl w.heap.size 5 i0 (.int .u8 0) 1 1 Tryd.underlying25 hi hz0 hz1 hz2 rfl (by decide) _ _ _ rfl (ho2.alloc _) ⟨wr.heap.size, 0, none⟩ 8 8 [.int .u8 0, .int .u8 0, .int .u8 (h : Int), .int .u8 (l : Int), .int .u8 0, .int .u8 0, .int .u8 0, .int .u8 (P : Int)] rfl rfl (news_new _ _ _) (by intro u hu; simp only [List.mem_cons, List.not_mem_nil, or_false] at hu; rcases hu with rfl | rfl | rfl | rfl | rfl | rfl | rfl | rfl <;> rfl) (by unfold maxLen; omega) (by omega) (by have := hbr.size; simp; omega) ?_))
              intro v3 w3 ho3' hg3 _
              have ho3 : OwnB w3 w.heap.size v3 40 (ipL x 16 ++ ipL y 16 ++ [0, 0, h, l, 0, 0, 0, P]) := by simpa [OwnB, toI] using ho3'
              have hb6 : Below w.heap.size w w3 := (hbr.alloc hbr.size _).grown hg3 (by have := hbr.size; simp; omega) (fun j hj => (ho2.lt j hj).1)
              obtain ⟨a3, c3, rfl⟩ := owns_shape ho3
              clear ho3' hg3
              go_wp2
              go_ret2
              have hlen : (ipL x 16 ++ ipL y 16 ++ [0, 0, h, l, 0, 0, 0, P]).length = 40 := by simp [ipL_len]
              rw [HL.out, hlen]
              exact ⟨_, ps_ret (by rw [HE.out]), ho3, hb6⟩
end Go.Proofs.YtkhalknpfikghaaDoor
