/-
  The reference's version of an address.
-/
/-
  The document's Pseudo.
-/
/-
  ParseUdp, ParseTcp, PutUdp, PutTcp in one form for what is taken and what is not; and of values that may be: written, and what was written read.
-/
/-
  Clamp in numbers: what the greatest segment is behind it; twice is once; whether it may be is not another. No program here.
-/
/-
  A row that bears one mark in all its places, and what is appended to it (as in WFam).
-/
/-
  Copied; CloneOpts (as in I4Clone); CloneUdp, CloneTcp.
-/
import Derived.Test.YtfoeepbndfnifaaGreatDoorI8Ps2
import Derived.Test.YtfoeepbndfnifaaGreatDoorI8Ps3
import Derived.Test.YtfoeepbndfnifaaGreatDoorL9St1
import Derived.Test.YtfoeepbndfnifaaGreatDoorL9Spec
import Derived.Test.YtfoeepbndfnifaaGreatDoorPSplit
import Derived.Test.YtfoeepbndfnifaaGreatDoorI8Sum
import Derived.Deep.DeepAppendRoom
import Derived.Maps.AppendAt
import Derived.Test.YtfoeepbndfnifaaGreatDoorL9Cl
import Derived.Test.YtfoeepbndfnifaaGreatDoorL9Har
namespace Go.Proofs.YtfoeepbndfnifaaGreatDoor
open Go.RowKit
set_option maxHeartbeats 1600000 in
set_option maxRecDepth 100000 in
theorem version_any (V : Int) (x : Nat → Nat) (w : World) :
    Calls Tryz.prog 115 #[.agg (ipCells V x)] w fun e w' => e = .returned (.int .i64 (verOf V x)) ∧ Below w.heap.size w w' := by
  have hbx := boxed_new w V x 27
  have hb1 : Below w.heap.size w (w.alloc (.cells (ipCells V x) 27)) := (Below.refl _ _).alloc (Nat.le_refl _) _
  obtain ⟨CS, hCS⟩ : ∃ CS, CS = ipCells V x := ⟨_, rfl⟩
  rw [← hCS] at hbx hb1 ⊢
  clear hCS
  go_enter Tryz.func115, Tryz.ntmps115
  go_upto_region 1 with fail
  obtain ⟨W, hW⟩ : ∃ W, W = w.alloc (.cells CS 27) := ⟨_, rfl⟩
  rw [← hW] at hbx hb1 ⊢
  clear hW
  obtain ⟨B, hB⟩ : ∃ B, B = w.heap.size := ⟨_, rfl⟩
  rw [← hB] at hbx ⊢
  clear hB
  have hv := hbx.ver
  by_cases h6 : V = 6
  · subst h6
    go_wp2
    go_ret
    exact ⟨ret1 (by simp [verOf]), hb1⟩
  · have h6' : (V == 6) = false := by simpa using h6
    go_wp2
    go_loop [3] (fun ix => ∃ k : Nat, 4 ≤ k ∧ k ≤ 16 ∧ ix = .int .i64 k ∧ Hid (∀ j, 4 ≤ j → j < k → x j = 0)) (fun ix => 16 - (intOf ix).toNat)
    case atStart => exact ⟨4, by omega, by omega, rfl, fun j h1 h2 => by omega⟩
    case round =>
      obtain ⟨k, hk4, hk, rfl, HZ⟩ := hrel
      by_cases hlt : k < 16
      · have hc := hbx.byte k hlt
        obtain ⟨y, hy⟩ : ∃ y, y = x k := ⟨_, rfl⟩
        rw [← hy] at hc
        have HY : Hid (y = x k) := hy
        clear hy
        by_cases hy0 : y = 0
        · subst hy0
          go_wp2
          go_round
          case rel => exact ⟨k + 1, by omega, by omega, by go_num, fun j h1 h2 => by rcases Nat.lt_succ_iff_lt_or_eq.1 h2 with h | rfl; exact HZ.out j h1 h; exact HY.out.symm⟩
          case measure => simp [intOf]; omega
        · have hb : ((y : Int) != 0) = true := by simp; omega
          have HR : Hid (verOf V x = 0) := by
            show _ = _
            have hr : ¬ restZ x = true := fun h => hy0 (by rw [HY.out]; exact (restZ_iff x).1 h k hk4 hlt)
            rw [verOf, if_neg h6, if_neg (fun h => hr h.1)]
          go_wp2
          go_ret
          exact ⟨ret1 (by rw [HR.out]), hb1⟩
      · obtain rfl : k = 16 := by omega
        have hr : restZ x = true := (restZ_iff x).2 HZ.out
        by_cases h4 : V = 4
        · subst h4
          have HR : Hid (verOf 4 x = 4) := by show _ = _; rw [verOf, if_neg (by decide), if_pos ⟨hr, rfl⟩]
          go_wp2
          go_ret
          exact ⟨ret1 (by rw [HR.out]), hb1⟩
        · have h4' : (V == 4) = false := by simpa using h4
          have HR : Hid (verOf V x = 0) := by show _ = _; rw [verOf, if_neg h6, if_neg (fun h => h4 h.2)]
          go_wp2
          go_ret
          exact ⟨ret1 (by rw [HR.out]), hb1⟩
end Go.Proofs.YtfoeepbndfnifaaGreatDoor
namespace Go.Proofs.YtfoeepbndfnifaaGreatDoor
open Go.RowKit

theorem verOf_ok (V U : Int) (x y : Nat → Nat) : psOk V U x y = true ↔ verOf V x ≠ 0 ∧ verOf U y = verOf V x := by
  unfold psOk verOf isAddr
  by_cases h6 : V = 6 <;> by_cases g6 : U = 6 <;> by_cases h4 : V = 4 <;> by_cases g4 : U = 4 <;> cases hx : restZ x <;> cases hy : restZ y <;> simp_all <;> omega
theorem verOf_eq (V : Int) (x : Nat → Nat) (h : verOf V x ≠ 0) : verOf V x = V := by
  unfold verOf at *
  split at h
  · rw [if_pos (by assumption)]; omega
  · rw [if_neg (by assumption)]
    split at h
    · rename_i h1; rw [if_pos h1]; exact h1.2.symm
    · exact absurd rfl h
theorem psIn_no {p n : Int} (h : p < 0 ∨ 255 < p ∨ n < 0 ∨ 65535 < n) : psIn p n = false := by simp [psIn]; omega
theorem psIn_yes {p n : Int} (h1 : 0 ≤ p) (h2 : p ≤ 255) (h3 : 0 ≤ n) (h4 : n ≤ 65535) : psIn p n = true := by simp [psIn]; omega
theorem Boxed.low {w w' : World} {B L : Nat} {V : Int} {x : Nat → Nat} (h : Boxed w B V x) (hb : Below L w w') (hB : B < L) : Boxed w' B V x :=
  ⟨(hb.cell (p := ⟨B, 0, none⟩) hB).trans h.ver, fun i hi => (hb.cell (p := ⟨B, 1 + i, none⟩) hB).trans (h.byte i hi)⟩
theorem owns_base {w : World} {b b' : Nat} {e : TypeId} {v : Value} {n : Nat} {xs : List Value} (h : w.ownsRow b e 1 v n xs) (hb : ∀ g, v.ownBlock = some g → b' ≤ g) : w.ownsRow b' e 1 v n xs := by
  refine ⟨h.1, ?_⟩
  rcases h.2 with h2 | ⟨g, cap, cur, rfl, hg, r⟩
  · exact .inl h2
  · exact .inr ⟨g, cap, cur, rfl, hb g rfl, r⟩
theorem ipL_succ (x : Nat → Nat) (k : Nat) : ipL x (k + 1) = ipL x k ++ [x k] := by simp [ipL, List.range_succ]
set_option maxHeartbeats 3200000 in
set_option maxRecDepth 100000 in
theorem rpseudo_any (V U : Int) (x y : Nat → Nat) (p n : Int) (w : World) :
    Calls Tryz.prog 101 #[.agg (ipCells V x), .agg (ipCells U y), .int .i64 p, .int .i64 n] w fun e w' => ∃ v, e = .returned (.tuple #[v, .int .i64 (psE V U x y p n)]) ∧ OwnB w' w.heap.size v (psL V U x y p n).length (psL V U x y p n) ∧ Below w.heap.size w w' := by
  obtain ⟨i0, hi, hz0, hz1, hz2⟩ := info_parts Tryz.infoByte
  have hx1 := boxed_new w V x 27
  have hy1 := boxed_new (w.alloc (.cells (ipCells V x) 27)) U y 27
  have hb1 : Below w.heap.size w ((w.alloc (.cells (ipCells V x) 27)).alloc (.cells (ipCells U y) 27)) := ((Below.refl _ _).alloc (Nat.le_refl _) _).alloc (by simp) _
  have hx2 := hx1.old ((Below.refl _ _).alloc (Nat.le_refl _) (.cells (ipCells U y) 27))
  clear hx1
  rw [World.size_alloc] at hy1
  obtain ⟨A, hA⟩ : ∃ A, A = ipCells V x := ⟨_, rfl⟩
  obtain ⟨C, hC⟩ : ∃ C, C = ipCells U y := ⟨_, rfl⟩
  rw [← hA] at hx2 hy1 hb1 ⊢
  rw [← hC] at hx2 hy1 hb1 ⊢
  have HA : Hid (A = ipCells V x) := hA
  have HC : Hid (C = ipCells U y) := hC
  clear hA hC
  go_enter Tryz.func101, Tryz.ntmps101
  go_upto_region 1 with fail
  obtain ⟨W, hW⟩ : ∃ W, W = (w.alloc (.cells A 27)).alloc (.cells C 27) := ⟨_, rfl⟩
  rw [← hW] at hx2 hy1 hb1 ⊢
  clear hW
  obtain ⟨B, hB⟩ : ∃ B, B = w.heap.size := ⟨_, rfl⟩
  have HB : Hid (w.heap.size = B) := hB.symm
  rw [← hB] at hx2 hy1 ⊢
  clear hB
  obtain ⟨vx, hvx⟩ : ∃ v, v = verOf V x := ⟨_, rfl⟩
  obtain ⟨vy, hvy⟩ : ∃ v, v = verOf U y := ⟨_, rfl⟩
  have HVX : Hid (verOf V x = vx) := hvx.symm
  have HVY : Hid (verOf U y = vy) := hvy.symm
  clear hvx hvy
  have HOK : Hid (psOk V U x y = true ↔ vx ≠ 0 ∧ vy = vx) := by rw [← HVX.out, ← HVY.out]; exact verOf_ok V U x y
  have HEQ : Hid (vx ≠ 0 → vx = V) := fun h => by rw [← HVX.out] at *; exact verOf_eq V x h
  go_cut [10] (fun s10 wx => s10 = .int .i64 vx ∧ Boxed wx B V x ∧ Boxed wx (B + 1) U y ∧ Below w.heap.size w wx)
  case first =>
    go_wp2_with (first | (refine wpList_load_ip (.tmp 4) rfl B V x rfl hx2 rfl ?_))
    refine (version_any V x _).mono ?_
    rintro e w1 ⟨rfl, hb2⟩
    rw [HVX.out]
    have hx3 := hx2.old hb2
    have hy3 := hy1.old hb2
    have hb02 := hb1.trans (hb2.mono hb1.size)
    go_wp2
    go_meet
    exact ⟨rfl, hx3, hy3, hb02⟩
  case rest =>
  obtain ⟨rfl, hx3, hy3, hb02⟩ := hcut
  obtain ⟨w1, hw1⟩ : ∃ w1, w1 = wc := ⟨_, rfl⟩
  rw [← hw1] at hx3 hy3 hb02 ⊢
  clear hw1 hx2 hy1 hb1
  go_upto_region 2 with fail
  go_cut [23] (fun s23 wx => s23 = .bool (!psOk V U x y) ∧ Boxed wx B V x ∧ Boxed wx (B + 1) U y ∧ Below w.heap.size w wx)
  case first =>
    by_cases hz : vx = 0
    · have hzz : (vx == 0) = true := by simp [hz]
      have hps : psOk V U x y = false := by cases h : psOk V U x y; rfl; exact absurd hz (HOK.out.1 h).1
      go_wp2
      go_meet
      exact ⟨by rw [hps]; rfl, hx3, hy3, hb02⟩
    · have hzz : (vx == 0) = false := by simpa using hz
      go_wp2_with (first | (refine wpList_load_ip (.tmp 5) rfl (B + 1) U y rfl hy3 rfl ?_))
      refine (version_any U y _).mono ?_
      rintro e w2 ⟨rfl, hb3⟩
      rw [HVY.out]
      have hx4 := hx3.old hb3
      have hy4 := hy3.old hb3
      have hb03 := hb02.trans (hb3.mono hb02.size)
      by_cases hxy : vy = vx
      · subst hxy
        have hne : (vy != vy) = false := by simp
        have hps : psOk V U x y = true := HOK.out.2 ⟨hz, rfl⟩
        go_wp2
        go_meet
        exact ⟨by rw [hps]; rfl, hx4, hy4, hb03⟩
      · have hne : (vy != vx) = true := by simpa using hxy
        have hps : psOk V U x y = false := by cases h : psOk V U x y; rfl; exact absurd (HOK.out.1 h).2 hxy
        go_wp2
        go_meet
        exact ⟨by rw [hps]; rfl, hx4, hy4, hb03⟩
  case rest =>
  obtain ⟨rfl, hx4, hy4, hb3⟩ := hcut
  clear hx3 hy3 hb02
  cases hps : psOk V U x y with
  | false =>
    go_wp2
    go_ret2
    have e1 : psL V U x y p n = [] := by simp [psL, hps]
    rw [e1]
    exact ⟨_, ps_ret (by simp [psE, hps]), World.ownsRow_nil _ _ _ _, hb3⟩
  | true =>
  obtain rfl : vx = V := HEQ.out (HOK.out.1 hps).1
  go_upto_region 4 with fail
  go_cut [37] (fun s wx => s = .bool (!psIn p n) ∧ wx = wc)
  case first =>
    by_cases hp0 : p < 0
    · go_wp2
      go_meet
      exact ⟨by rw [psIn_no (.inl hp0)]; rfl, rfl⟩
    · by_cases hp1 : 255 < p
      · go_wp2
        go_meet
        exact ⟨by rw [psIn_no (.inr (.inl hp1))]; rfl, rfl⟩
      · by_cases hn0 : n < 0
        · go_wp2
          go_meet
          exact ⟨by rw [psIn_no (.inr (.inr (.inl hn0)))]; rfl, rfl⟩
        · by_cases hn1 : 65535 < n
          · go_wp2
            go_meet
            exact ⟨by rw [psIn_no (.inr (.inr (.inr hn1)))]; rfl, rfl⟩
          · go_wp2
            go_meet
            exact ⟨by rw [psIn_yes hp0 hp1 hn0 hn1]; rfl, rfl⟩
  case rest =>
  obtain ⟨rfl, rfl⟩ := hcut
  cases hpi : psIn p n with
  | false =>
    go_wp2
    go_ret2
    have e1 : psL vx U x y p n = [] := by simp [psL, hpi]
    rw [e1]
    exact ⟨_, ps_ret (by simp [psE, hps, hpi]), World.ownsRow_nil _ _ _ _, hb3⟩
  | true =>
    have hr : 0 ≤ p ∧ p ≤ 255 ∧ 0 ≤ n ∧ n ≤ 65535 := by simpa [psIn] using hpi
    have HE : Hid (psE vx U x y p n = 0) := by show _ = _; simp [psE, hps, hpi]
    obtain ⟨P, rfl⟩ : ∃ P : Nat, p = P := ⟨p.toNat, by omega⟩
    obtain ⟨N, rfl⟩ : ∃ N : Nat, n = N := ⟨n.toNat, by omega⟩
    have hP : P ≤ 255 := by omega
    have hN : N ≤ 65535 := by omega
    have hh : IntKind.u8.wrap ((N : Int) / 256) = ((N / 256 : Nat) : Int) := u8_hi N hN
    have hl : IntKind.u8.wrap ((N : Int) % 256) = ((N % 256 : Nat) : Int) := by
      have e : ((N : Int) % 256) = ((N % 256 : Nat) : Int) := by omega
      rw [e, u8_lo]; omega
    have hk : IntKind.u8.wrap (P : Int) = (P : Int) := by rw [u8_lo]; omega
    obtain ⟨h, hhe⟩ : ∃ h, h = N / 256 := ⟨_, rfl⟩
    obtain ⟨l, hle⟩ : ∃ l, l = N % 256 := ⟨_, rfl⟩
    rw [← hhe] at hh
    rw [← hle] at hl
    have HHL : Hid (h = N / 256 ∧ l = N % 256) := ⟨hhe, hle⟩
    clear hhe hle hr
    by_cases h4 : vx = 4
    · have HL : Hid (psL vx U x y P N = [x 0, x 1, x 2, x 3, y 0, y 1, y 2, y 3] ++ [0, P, h, l]) := by
        show _ = _
        rw [psL, hps, hpi, h4, HHL.out.1, HHL.out.2]
        simp [ipL, List.range_succ]
      subst h4
      clear hpi hps
      have x0 := hx4.byte 0 (by decide)
      have x1 := hx4.byte 1 (by decide)
      have x2 := hx4.byte 2 (by decide)
      have x3 := hx4.byte 3 (by decide)
      have y0 := hy4.byte 0 (by decide)
      have y1 := hy4.byte 1 (by decide)
      have y2 := hy4.byte 2 (by decide)
      have y3 := hy4.byte 3 (by decide)
      have hnil := World.ownsRow_nil wc w.heap.size 5 1
      go_wp2_with (first | (at_builtin; refine wpList_append_own _ rfl (.tmp 40) (.tmp 65) 28 rfl w.heap.size 5 i0 (.int .u8 0) 1 1 Tryz.underlying28 hi hz0 hz1 hz2 rfl (by decide) _ _ _ rfl (hnil.alloc _) ⟨wc.heap.size, 0, none⟩ 8 8 [.int .u8 (x 0 : Nat), .int .u8 (x 1 : Nat), .int .u8 (x 2 : Nat), .int .u8 (x 3 : Nat), .int .u8 (y 0 : Nat), .int .u8 (y 1 : Nat), .int .u8 (y 2 : Nat), .int .u8 (y 3 : Nat)] rfl rfl (news_new _ _ _) (by intro u hu; simp only [List.mem_cons, List.not_mem_nil, or_false] at hu; rcases hu with rfl | rfl | rfl | rfl | rfl | rfl | rfl | rfl <;> rfl) (by unfold maxLen; omega) (by omega) (by have := hb3.size; simp; omega) ?_))
      intro v2 w2 ho2' hg2 _
      have ho2 : OwnB w2 w.heap.size v2 8 [x 0, x 1, x 2, x 3, y 0, y 1, y 2, y 3] := by simpa [OwnB, toI] using ho2'
      have hb5 : Below w.heap.size w w2 := (hb3.alloc hb3.size _).grown hg2 (by have := hb3.size; simp; omega) (by intro k hk; simp [Value.ownBlock] at hk)
      obtain ⟨a2, c2, rfl⟩ := owns_shape ho2
      clear ho2' hg2 x0 x1 x2 x3 y0 y1 y2 y3 hnil
      go_wp2_with (first | (at_builtin; refine wpList_append_own _ rfl (.tmp 67) (.tmp 76) 28 rfl w.heap.size 5 i0 (.int .u8 0) 1 1 Tryz.underlying28 hi hz0 hz1 hz2 rfl (by decide) _ _ _ rfl (ho2.alloc _) ⟨w2.heap.size, 0, none⟩ 4 4 [.int .u8 0, .int .u8 (P : Int), .int .u8 (h : Int), .int .u8 (l : Int)] rfl rfl (news_new _ _ _) (by intro u hu; simp only [List.mem_cons, List.not_mem_nil, or_false] at hu; rcases hu with rfl | rfl | rfl | rfl <;> rfl) (by unfold maxLen; omega) (by omega) (by have := hb5.size; simp; omega) ?_))
      intro v3 w3 ho3' hg3 _
      have ho3 : OwnB w3 w.heap.size v3 12 ([x 0, x 1, x 2, x 3, y 0, y 1, y 2, y 3] ++ [0, P, h, l]) := by simpa [OwnB, toI] using ho3'
      have hb6 : Below w.heap.size w w3 := (hb5.alloc hb5.size _).grown hg3 (by have := hb5.size; simp; omega) (fun j hj => (ho2.lt j hj).1)
      obtain ⟨a3, c3, rfl⟩ := owns_shape ho3
      clear ho3' hg3
      go_wp2
      go_ret2
      rw [HL.out]
      exact ⟨_, ps_ret (by rw [HE.out]), ho3, hb6⟩
    · have h4' : (vx == 4) = false := by simpa using h4
      have HL : Hid (psL vx U x y P N = ipL x 16 ++ ipL y 16 ++ [0, 0, h, l, 0, 0, 0, P]) := by
        show _ = _
        rw [psL, hps, hpi, if_neg h4, HHL.out.1, HHL.out.2]
        simp
      have HBB : Hid (B < wc.heap.size ∧ B + 1 < wc.heap.size) := ⟨World.block_lt_of_cell? wc _ hx4.ver, World.block_lt_of_cell? wc _ hy4.ver⟩
      clear hpi hps
      go_wp2
      go_loopw [11, 12] (fun v ix wr => ∃ k : Nat, k ≤ 16 ∧ ix = .int .i64 k ∧ OwnB wr w.heap.size v k (ipL x k) ∧ Hid (∀ g, v.ownBlock = some g → wc.heap.size ≤ g) ∧ Boxed wr B vx x ∧ Boxed wr (B + 1) U y ∧ Below w.heap.size w wr ∧ wc.heap.size ≤ wr.heap.size) (fun _ ix _ => 16 - (intOf ix).toNat)
      case atStart => exact ⟨0, by omega, rfl, by simpa [ipL, OwnB, toI] using World.ownsRow_nil wc w.heap.size 5 1, (fun g hg => by simp [Value.ownBlock] at hg), hx4, hy4, hb3, Nat.le_refl _⟩
      case round =>
        obtain ⟨k, hk, rfl, hor, HOW, hxr, hyr, hbr, hsz⟩ := hrel
        by_cases hlt : k < 16
        · have hc := hxr.byte k hlt
          have hst : (toI (ipL x (k + 1))).map (Value.int .u8) = (toI (ipL x k)).map (Value.int .u8) ++ [.int .u8 (x k : Nat)] := by rw [ipL_succ x k]; simp [toI]
          obtain ⟨q, hq⟩ : ∃ q, q = x k := ⟨_, rfl⟩
          rw [← hq] at hc hst
          have HST : Hid _ := hst
          have hor2 := owns_base hor HOW.out
          clear hst hq
          go_wp2_with (first | (at_builtin; refine wpList_append_own _ rfl (.tmp 82) (.tmp 87) 28 rfl wc.heap.size 5 i0 (.int .u8 0) 1 1 Tryz.underlying28 hi hz0 hz1 hz2 rfl (by decide) _ _ _ rfl (hor2.alloc _) ⟨wr.heap.size, 0, none⟩ 1 1 [.int .u8 (q : Nat)] rfl rfl (news_new _ _ _) (by intro u hu; simp only [List.mem_cons, List.not_mem_nil, or_false] at hu; subst hu; rfl) (by unfold maxLen; omega) (by omega) (by simp; omega) ?_))
          intro v1 w1 ho1 hg1 _
          have hb4 : Below w.heap.size w w1 := (hbr.alloc hbr.size _).grown hg1 (by have := hbr.size; simp; omega) (fun j hj => (hor.lt j hj).1)
          have hbx : Below wc.heap.size wr w1 := ((Below.refl _ _).alloc hsz _).grown hg1 (by simp; omega) (fun j hj => HOW.out j hj)
          rw [← HST.out] at ho1
          have hx5 := hxr.low hbx HBB.out.1
          have hy5 := hyr.low hbx HBB.out.2
          have hs5 := hg1.size
          have ho5 : OwnB w1 w.heap.size v1 (k + 1) (ipL x (k + 1)) := owns_mono ho1 hb3.size
          have HOW5 : Hid (∀ g, v1.ownBlock = some g → wc.heap.size ≤ g) := fun g hg => (ho1.lt g hg).1
          clear hg1 hor hor2 hxr hyr hbr ho1
          go_wp2
          go_roundw
          case rel => exact ⟨k + 1, by omega, by go_num, ho5, HOW5, hx5, hy5, hb4, by simp at hs5; omega⟩
          case measure => simp [intOf]; omega
        · have ek : k = 16 := by omega
          rw [ek] at hor
          clear ek
          go_wp2
          go_loopw [11, 13] (fun v ix wr => ∃ k : Nat, k ≤ 16 ∧ ix = .int .i64 k ∧ OwnB wr w.heap.size v (16 + k) (ipL x 16 ++ ipL y k) ∧ Hid (∀ g, v.ownBlock = some g → wc.heap.size ≤ g) ∧ Boxed wr B vx x ∧ Boxed wr (B + 1) U y ∧ Below w.heap.size w wr ∧ wc.heap.size ≤ wr.heap.size) (fun _ ix _ => 16 - (intOf ix).toNat)
          case atStart => exact ⟨0, by omega, rfl, by simpa [ipL, OwnB, toI] using hor, HOW, hxr, hyr, hbr, hsz⟩
          case round =>
            obtain ⟨k, hk, rfl, hor, HOW, hxr, hyr, hbr, hsz⟩ := hrel
            by_cases hlt : k < 16
            · have hc := hyr.byte k hlt
              have hst : (toI (ipL x 16 ++ ipL y (k + 1))).map (Value.int .u8) = (toI (ipL x 16 ++ ipL y k)).map (Value.int .u8) ++ [.int .u8 (y k : Nat)] := by rw [ipL_succ y k]; simp [toI]
              obtain ⟨q, hq⟩ : ∃ q, q = y k := ⟨_, rfl⟩
              rw [← hq] at hc hst
              have HST : Hid _ := hst
              have hor2 := owns_base hor HOW.out
              clear hst hq
              go_wp2_with (first | (at_builtin; refine wpList_append_own _ rfl (.tmp 93) (.tmp 98) 28 rfl wc.heap.size 5 i0 (.int .u8 0) 1 1 Tryz.underlying28 hi hz0 hz1 hz2 rfl (by decide) _ _ _ rfl (hor2.alloc _) ⟨wr.heap.size, 0, none⟩ 1 1 [.int .u8 (q : Nat)] rfl rfl (news_new _ _ _) (by intro u hu; simp only [List.mem_cons, List.not_mem_nil, or_false] at hu; subst hu; rfl) (by unfold maxLen; omega) (by omega) (by simp; omega) ?_))
              intro v1 w1 ho1 hg1 _
              have hb4 : Below w.heap.size w w1 := (hbr.alloc hbr.size _).grown hg1 (by have := hbr.size; simp; omega) (fun j hj => (hor.lt j hj).1)
              have hbx : Below wc.heap.size wr w1 := ((Below.refl _ _).alloc hsz _).grown hg1 (by simp; omega) (fun j hj => HOW.out j hj)
              rw [← HST.out] at ho1
              have hx5 := hxr.low hbx HBB.out.1
              have hy5 := hyr.low hbx HBB.out.2
              have hs5 := hg1.size
              have ho5 : OwnB w1 w.heap.size v1 (16 + (k + 1)) (ipL x 16 ++ ipL y (k + 1)) := owns_mono ho1 hb3.size
              have HOW5 : Hid (∀ g, v1.ownBlock = some g → wc.heap.size ≤ g) := fun g hg => (ho1.lt g hg).1
              clear hg1 hor hor2 hxr hyr hbr ho1
              go_wp2
              go_roundw
              case rel => exact ⟨k + 1, by omega, by go_num, ho5, HOW5, hx5, hy5, hb4, by simp at hs5; omega⟩
              case measure => simp [intOf]; omega
            · obtain rfl : k = 16 := by omega
              have ho2 := hor
              go_wp2_with (first | (at_builtin; refine wpList_append_own _ rfl (.tmp 100) (.tmp 109) 28 rfl w.heap.size 5 i0 (.int .u8 0) 1 1 Tryz.underlying28 hi hz0 hz1 hz2 rfl (by decide) _ _ _ rfl (ho2.alloc _) ⟨wr.heap.size, 0, none⟩ 8 8 [.int .u8 0, .int .u8 0, .int .u8 (h : Int), .int .u8 (l : Int), .int .u8 0, .int .u8 0, .int .u8 0, .int .u8 (P : Int)] rfl rfl (news_new _ _ _) (by intro u hu; simp only [List.mem_cons, List.not_mem_nil, or_false] at hu; rcases hu with rfl | rfl | rfl | rfl | rfl | rfl | rfl | rfl <;> rfl) (by unfold maxLen; omega) (by omega) (by have := hbr.size; simp; omega) ?_))
              intro v3 w3 ho3' hg3 _
              have ho3 : OwnB w3 w.heap.size v3 40 (ipL x 16 ++ ipL y 16 ++ [0, 0, h, l, 0, 0, 0, P]) := by simpa [OwnB, toI] using ho3'
              have hb6 : Below w.heap.size w w3 := (hbr.alloc hbr.size _).grown hg3 (by have := hbr.size; simp; omega) (fun j hj => (ho2.lt j hj).1)
              obtain ⟨a3, c3, rfl⟩ := owns_shape ho3
              clear ho3' hg3
              go_wp2
              go_ret2
              have hlen : (ipL x 16 ++ ipL y 16 ++ [0, 0, h, l, 0, 0, 0, P]).length = 40 := by simp [ipL_len]
              rw [HL.out, hlen]
              exact ⟨_, ps_ret (by rw [HE.out]), ho3, hb6⟩
end Go.Proofs.YtfoeepbndfnifaaGreatDoor
namespace Go.Proofs.YtfoeepbndfnifaaGreatDoor
open Go.RowKit
open L4 (U9 T9)

theorem psOk_ver {V U : Int} {x y : Nat → Nat} (h : psOk V U x y = true) : (V = 4 ∨ V = 6) ∧ V = U := by
  simp only [psOk, Bool.and_eq_true, decide_eq_true_eq] at h
  have h1 := h.1.1
  unfold isAddr at h1
  by_cases h4 : V = 4
  · exact ⟨.inl h4, h.2⟩
  · rw [if_neg h4] at h1
    exact ⟨.inr (of_decide_eq_true h1), h.2⟩
theorem flat_few (l : List I4.OV) : l.length ≤ (I4.flatO l).length := by
  induction l with
  | nil => simp
  | cons o l ih => simp only [I4.flatO, List.length_cons, List.length_append]; omega
theorem d_zero (w : World) : DOk w [] none 0 0 := ⟨rfl, .inl rfl, by simp, Nat.le_refl _, by omega, by omega⟩
theorem t_zero (w : World) : TOk w t9z none 0 [] none 0 0 := ⟨rfl, rfl, .inl rfl, by omega, d_zero w⟩
theorem parseU_u (V U : Int) (x y : Nat → Nat) (a : Option Addr) (n cap : Nat) (bs : List Nat) (w : World) (hw : UW w) (hd : DOk w bs a n cap) (hx : ∀ i, i < 16 → x i < 256) (hy : ∀ i, i < 16 → y i < 256) :
    Calls Tryz.prog 44 #[.agg (ipCells V x), .agg (ipCells U y), .slice a n cap] w fun e w' => ∃ (er : Nat) (u : U9) (da : Option Addr) (m : Nat), e = .returned (.tuple #[.agg (uC u da m m), .int .i64 (er : Nat)]) ∧ Below w.heap.size w w' ∧ er = L4.uPE V (psOk V U x y) (psL V U x y 17 (L4.uN bs : Nat)) bs ∧ DOk w' u.d da m m ∧ (er = 0 → u = L4.uP bs ∧ m = L4.uN bs - 8 ∧ da = cutA a 8 m) ∧ (er ≠ 0 → u = u9z ∧ da = none ∧ m = 0) := by
  refine (parseU_any V U x y a n cap bs w hw hd hx hy).mono ?_
  rintro e w' ⟨er, rfl, hb, her⟩
  by_cases hz : er = 0
  · have h := L4.uPE_zero (her.symm.trans hz)
    refine ⟨er, L4.uP bs, cutA a 8 (L4.uN bs - 8), L4.uN bs - 8, by unfold puC; rw [if_pos hz], hb, her, ?_, fun _ => ⟨rfl, rfl, rfl⟩, fun h0 => absurd hz h0⟩
    have hl : 8 + (L4.uN bs - 8) ≤ bs.length := by omega
    have hs := (hd.seg.old hb).cut 8 (L4.uN bs - 8) (by rw [toI_len]; exact hl)
    rw [toI_drop, toI_take] at hs
    refine ⟨?_, hs, fun z hz => hd.d256 z (List.mem_of_mem_drop (List.mem_of_mem_take hz)), Nat.le_refl _, by omega, by omega⟩
    show ((bs.drop 8).take (L4.uN bs - 8)).length = _
    rw [List.length_take, List.length_drop]
    omega
  · exact ⟨er, u9z, none, 0, by unfold puC; rw [if_neg hz], hb, her, d_zero w', fun h0 => absurd h0 hz, fun _ => ⟨rfl, rfl, rfl⟩⟩
theorem parseT_u (V U : Int) (x y : Nat → Nat) (a : Option Addr) (n cap : Nat) (bs : List Nat) (w : World) (hw : TW w) (hlw : LW w) (hd : DOk w bs a n cap) (hx : ∀ i, i < 16 → x i < 256) (hy : ∀ i, i < 16 → y i < 256) :
    Calls Tryz.prog 45 #[.agg (ipCells V x), .agg (ipCells U y), .slice a n cap] w fun e w' => ∃ (er : Nat) (t : T9) (la : Option Addr) (ln lc : Nat) (os : List OpV) (da : Option Addr) (m : Nat), e = .returned (.tuple #[.agg (tC t la ln lc da m m), .int .i64 (er : Nat)]) ∧ Below w.heap.size w w' ∧ er = L4.tPE (psOk V U x y) (psL V U x y 6 (n : Nat)) bs ∧ TOk w' t la ln os da m m ∧ (er = 0 → t = L4.tP bs ∧ m = bs.length - L4.tH bs ∧ da = cutA a (L4.tH bs) m) ∧ (er ≠ 0 → t = t9z ∧ la = none ∧ ln = 0 ∧ lc = 0 ∧ os = [] ∧ da = none ∧ m = 0) ∧ (er = 0 → ∃ ops, L4.readO (L4.tOb bs) = some ops ∧ ln = ops.length ∧ os = ops.map (opV (a20 a cap) (L4.tOb bs)) ∧ w'.ownsRow w.heap.size 76 2 (.slice la ln lc) ln (opsC (a20 a cap) ops)) := by
  refine (parseT_any V U x y a n cap bs w hw hlw hd hx hy).mono ?_
  rintro e w' ⟨er, la, ln, lc, rfl, hb, her, hos⟩
  by_cases hz : er = 0
  · have h := L4.tPE_zero (her.symm.trans hz)
    obtain ⟨ops, hro, hrn, hown⟩ := hos hz
    have h9 := hd.old hb
    have o256 : ∀ z ∈ L4.tOb bs, z < 256 := fun z hz => h9.d256 z (List.mem_of_mem_drop (List.mem_of_mem_take hz))
    have hrs := L4.readO_some hro
    have hcp := hd.cap
    have hsg := seg_pre (seg_rest h9.seg 20 cap (by omega) (by rw [hd.dl]; exact hcp)) (L4.tH bs - 20)
    have hPat := opts_of_own hown hrn.symm hsg o256 (fun q hq => ((I4.scan_in _ 0 ops hrs.2.1 (Nat.zero_le _) o256).1 q hq).2.2.2) (by have h40 : (List.take (L4.tH bs - 20) (List.drop 20 bs)).length ≤ 40 := hrs.1; omega)
    have hdv := h9.seg.cut (L4.tH bs) (bs.length - L4.tH bs) (by rw [toI_len]; omega)
    rw [toI_drop, toI_take, List.take_of_length_le (by rw [List.length_drop]; omega)] at hdv
    have hol : ops.length ≤ 1099511627776 := by
      have h1 := (I4.scan_in _ 0 ops hrs.2.1 (Nat.zero_le _) o256).2
      have h2 := flat_few (ops.map (I4.ov (L4.tOb bs)))
      have h3 := hrs.1
      rw [List.length_map] at h2
      omega
    refine ⟨er, L4.tP bs, la, ln, lc, ops.map (opV (a20 a cap) (L4.tOb bs)), _, _, by unfold ptC; rw [if_pos hz], hb, her, ?_, fun _ => ⟨rfl, rfl, rfl⟩, fun h0 => absurd hz h0, fun _ => ⟨ops, hro, hrn, rfl, hown⟩⟩
    refine ⟨?_, by rw [List.length_map, hrn], hPat, by rw [hrn]; exact hol, ?_⟩
    · rw [vals_opV]
      simp only [L4.tP, hro, Option.getD_some]
    · refine ⟨?_, hdv, fun z hz => hd.d256 z (List.mem_of_mem_drop hz), Nat.le_refl _, by omega, by omega⟩
      show (bs.drop (L4.tH bs)).length = _
      rw [List.length_drop]
  · exact ⟨er, t9z, none, 0, 0, [], none, 0, by unfold ptC; rw [if_neg hz], hb, her, t_zero w', fun h0 => absurd h0 hz, fun _ => ⟨rfl, rfl, rfl, rfl, rfl, rfl, rfl⟩, fun h0 => absurd h0 hz⟩
theorem putU_ok (V U : Int) (x y : Nat → Nat) (u : U9) (da : Option Addr) (n c : Nat) (w : World) (hw : UW w) (k : DOk w u.d da n c) (hx : ∀ i, i < 16 → x i < 256) (hy : ∀ i, i < 16 → y i < 256) (hp : psOk V U x y = true) (hc : L4.uChk V u = 0) :
    Calls Tryz.prog 14 #[.agg (ipCells V x), .agg (ipCells U y), .agg (uC u da n c)] w fun e w' => ∃ g, e = .returned (.tuple #[.slice (some ⟨g, 0, none⟩) (8 + n : Nat) (8 + n : Nat), .int .i64 0]) ∧ Below w.heap.size w w' ∧ OwnB w' w.heap.size (.slice (some ⟨g, 0, none⟩) (8 + n) (8 + n)) (8 + n) (L4.uSer u (psL V U x y 17 ((8 + n : Nat) : Int))) ∧ DOk w' (L4.uSer u (psL V U x y 17 ((8 + n : Nat) : Int))) (some ⟨g, 0, none⟩) (8 + n) (8 + n) := by
  refine (putU_any V U x y u da n c w hw k hx hy).mono ?_
  rintro e w' ⟨v, er, rfl, her, hb, hr⟩
  have h0 : er = 0 := by rw [her]; unfold L4.uPutE; rw [hp, if_pos rfl, hc]
  subst h0
  rcases hr with ⟨_, g, rfl, ho⟩ | ⟨h, _⟩
  · refine ⟨g, rfl, hb, ho, ?_, (owns_seg_at ho).1, L4.uSer_256 u _ hc k.d256, Nat.le_refl _, ?_, ?_⟩
    · rw [L4.uSer_len, k.dl]
    · have := (L4.uChk_zero hc).2.2.2.2; rw [k.dl] at this; omega
    · have := (L4.uChk_zero hc).2.2.2.2; rw [k.dl] at this; omega
  · exact absurd rfl h
theorem parseU_ok (V U : Int) (x y : Nat → Nat) (u : U9) (n : Nat) (a : Option Addr) (w : World) (hw : UW w) (hx : ∀ i, i < 16 → x i < 256) (hy : ∀ i, i < 16 → y i < 256) (hp : psOk V U x y = true) (hc : L4.uChk V u = 0) (hn : u.d.length = n)
    (hd : DOk w (L4.uSer u (psL V U x y 17 ((8 + n : Nat) : Int))) a (8 + n) (8 + n)) :
    Calls Tryz.prog 44 #[.agg (ipCells V x), .agg (ipCells U y), .slice a (8 + n : Nat) (8 + n : Nat)] w fun e w' => ∃ dv, e = .returned (.tuple #[.agg (uC u dv n n), .int .i64 0]) ∧ Below w.heap.size w w' ∧ DOk w' u.d dv n n := by
  refine (parseU_u V U x y a (8 + n) (8 + n) _ w hw hd hx hy).mono ?_
  rintro e w' ⟨er, v, da, m, rfl, hb, her, hdv, h1, _⟩
  have h0 : er = 0 := by rw [her, hp, L4.uN_ser, hn]; exact L4.uPE_ser u _ (psL_even _ _ _ _ _ _) hc
  obtain ⟨e1, e2, _⟩ := h1 h0
  rw [L4.uP_ser u _ hc] at e1
  rw [L4.uN_ser, hn, Nat.add_sub_cancel_left] at e2
  subst h0 e1 e2
  exact ⟨da, rfl, hb, hdv⟩
theorem tSer_256 {w : World} {t : T9} {la : Option Addr} {ln : Nat} {os : List OpV} {da : Option Addr} {n c : Nat} (k : TOk w t la ln os da n c) (hc : L4.tChk t = 0) (pb : List Nat) : ∀ z ∈ L4.tSer t pb, z < 256 := by
  intro z hz
  rcases List.mem_append.1 hz with h | h
  · exact L4.tHd_256 t _ (L4.tChk_zero hc).1 (L4.tSum_le _ _) z h
  · rcases List.mem_append.1 h with h | h
    · exact put_256 t.os (by rw [← k.ov]; exact opts_256 k.oat) z h
    · exact k.d.d256 z h
theorem putT_ok (V U : Int) (x y : Nat → Nat) (t : T9) (la : Option Addr) (ln lc : Nat) (os : List OpV) (da : Option Addr) (n c : Nat) (w : World) (hw : TW w) (hlw : LW w) (k : TOk w t la ln os da n c) (hx : ∀ i, i < 16 → x i < 256) (hy : ∀ i, i < 16 → y i < 256) (hp : psOk V U x y = true) (hc : L4.tChk t = 0) :
    Calls Tryz.prog 15 #[.agg (ipCells V x), .agg (ipCells U y), .agg (tC t la ln lc da n c)] w fun e w' => ∃ g, e = .returned (.tuple #[.slice (some ⟨g, 0, none⟩) (20 + (I4.putO t.os).length + n : Nat) (20 + (I4.putO t.os).length + n : Nat), .int .i64 0]) ∧ Below w.heap.size w w' ∧ OwnB w' w.heap.size (.slice (some ⟨g, 0, none⟩) (20 + (I4.putO t.os).length + n) (20 + (I4.putO t.os).length + n)) (20 + (I4.putO t.os).length + n) (L4.tSer t (psL V U x y 6 ((20 + (I4.putO t.os).length + n : Nat) : Int))) ∧ DOk w' (L4.tSer t (psL V U x y 6 ((20 + (I4.putO t.os).length + n : Nat) : Int))) (some ⟨g, 0, none⟩) (20 + (I4.putO t.os).length + n) (20 + (I4.putO t.os).length + n) := by
  refine (putT_any V U x y t la ln lc os da n c w hw hlw k hx hy).mono ?_
  rintro e w' ⟨v, er, rfl, her, hb, hr⟩
  have h0 : er = 0 := by rw [her]; unfold L4.tPutE; rw [hp, if_pos rfl, hc]
  subst h0
  rcases hr with ⟨_, g, rfl, ho⟩ | ⟨h, _⟩
  · refine ⟨g, rfl, hb, ho, ?_, (owns_seg_at ho).1, tSer_256 k hc _, Nat.le_refl _, ?_, ?_⟩
    · rw [L4.tSer_len, k.d.dl]
    · have := (L4.tChk_zero hc).2.2; rw [k.d.dl] at this; omega
    · have := (L4.tChk_zero hc).2.2; rw [k.d.dl] at this; omega
  · exact absurd rfl h
theorem parseT_ok (V U : Int) (x y : Nat → Nat) (t : T9) (n ln : Nat) (a : Option Addr) (w : World) (hw : TW w) (hlw : LW w) (hx : ∀ i, i < 16 → x i < 256) (hy : ∀ i, i < 16 → y i < 256) (hp : psOk V U x y = true) (hc : L4.tChk t = 0) (hn : t.d.length = n) (hln : t.os.length = ln)
    (hd : DOk w (L4.tSer t (psL V U x y 6 ((20 + (I4.putO t.os).length + n : Nat) : Int))) a (20 + (I4.putO t.os).length + n) (20 + (I4.putO t.os).length + n)) :
    Calls Tryz.prog 45 #[.agg (ipCells V x), .agg (ipCells U y), .slice a (20 + (I4.putO t.os).length + n : Nat) (20 + (I4.putO t.os).length + n : Nat)] w fun e w' => ∃ ra rc ps dv, e = .returned (.tuple #[.agg (tC t ra ln rc dv n n), .int .i64 0]) ∧ Below w.heap.size w w' ∧ TOk w' t ra ln ps dv n n := by
  refine (parseT_u V U x y a _ _ _ w hw hlw hd hx hy).mono ?_
  rintro e w' ⟨er, v, ra, rn, rc, ps, dv, m, rfl, hb, her, hk, h1, _, _⟩
  have h0 : er = 0 := by rw [her, hp]; exact L4.tPE_ser t _ (psL_even _ _ _ _ _ _) hc
  obtain ⟨e1, e2, _⟩ := h1 h0
  rw [L4.tP_ser t _ hc] at e1
  rw [L4.tSer_len, L4.tH_ser, hn] at e2
  have e3 : m = n := by rw [e2]; unfold L4.tHs; omega
  subst h0 e1 e3
  have e4 : rn = ln := by
    have h1 := congrArg List.length hk.ov
    rw [hln] at h1
    simp only [vals, List.length_map] at h1
    rw [← h1, hk.ol]
  subst e4
  exact ⟨ra, rc, ps, dv, rfl, hb, hk⟩
end Go.Proofs.YtfoeepbndfnifaaGreatDoor
namespace Go.Proofs.YtfoeepbndfnifaaGreatDoor.L4
open I4 (flatI putOk putO okO)

theorem clO_false (m : Nat) (o : Int × List Nat) : clO false m o = o := by unfold clO; rw [if_neg (by simp)]
theorem toldV_le (o : Int × List Nat) (h : ∀ x ∈ o.2, x < 256) : toldV o ≤ 65535 := by
  have g := fun i => I4.getD_lt o.2 h i
  have h0 := g 0
  have h1 := g 1
  unfold toldV
  split <;> omega
theorem clO_tells (s : Bool) (m : Nat) (o : Int × List Nat) : tells (clO s m o) = tells o := by
  unfold clO
  split
  · rename_i h
    simp only [Bool.and_eq_true] at h
    have := h.1.1
    simp only [tells, Bool.and_eq_true, decide_eq_true_eq] at this
    simp [tells, this.1, this.2]
  · rfl
theorem clO_told (m : Nat) (o : Int × List Nat) (h : ∀ x ∈ o.2, x < 256) : toldV (clO true m o) = if m < toldV o then m else toldV o := by
  by_cases ht : tells o = true
  · by_cases hm : m < toldV o
    · have hle := toldV_le o h
      have e : clO true m o = (o.1, [m / 256, m % 256]) := by unfold clO; rw [if_pos (by simp [ht, hm])]
      have e2 : tells (o.1, [m / 256, m % 256]) = true := by rw [← e, clO_tells]; exact ht
      rw [if_pos hm, e]
      unfold toldV
      rw [e2, if_pos rfl]
      show m / 256 * 256 + m % 256 = m
      omega
    · rw [if_neg hm]
      unfold clO
      rw [if_neg (by simp [hm])]
  · have h0 : toldV o = 0 := by unfold toldV; rw [if_neg ht]
    have e : clO true m o = o := by unfold clO; rw [if_neg (by simp [ht])]
    rw [e, h0]
    simp
theorem mss_is (s : Bool) (m : Nat) (l : List (Int × List Nat)) : (mss (l.map (clO s m))).2 = (mss l).2 := by
  induction l with
  | nil => rfl
  | cons o l ih =>
    simp only [List.map_cons, mss, clO_tells]
    split
    · rfl
    · exact ih
theorem mss_cl (m : Nat) (l : List (Int × List Nat)) (h : ∀ o ∈ l, ∀ x ∈ o.2, x < 256) : (mss (l.map (clO true m))).1 = if m < (mss l).1 then m else (mss l).1 := by
  induction l with
  | nil => simp [mss]
  | cons o l ih =>
    simp only [List.map_cons, mss, clO_tells]
    split
    · exact clO_told m o (h o (List.mem_cons_self ..))
    · exact ih (fun p hp => h p (List.mem_cons_of_mem _ hp))
theorem mss_id (m : Nat) (l : List (Int × List Nat)) : l.map (clO false m) = l := by
  conv => rhs; rw [← List.map_id l]
  exact List.map_congr_left (fun o _ => clO_false m o)
/-- twice is once -/
theorem clO_idem (s : Bool) (m : Nat) (o : Int × List Nat) (h : ∀ x ∈ o.2, x < 256) : clO s m (clO s m o) = clO s m o := by
  cases s with
  | false => rw [clO_false, clO_false]
  | true =>
    have ht := clO_told m o h
    have hle : ¬ m < toldV (clO true m o) := by rw [ht]; split <;> omega
    have e : ∀ q : Int × List Nat, ¬ m < toldV q → clO true m q = q := fun q hq => by unfold clO; rw [if_neg (by simp [hq])]
    exact e _ hle
theorem clO_kind (s : Bool) (m : Nat) (o : Int × List Nat) : (clO s m o).1 = o.1 ∧ (clO s m o).2.length = o.2.length := by
  unfold clO
  split
  · rename_i h
    simp only [Bool.and_eq_true] at h
    have := h.1.1
    simp only [tells, Bool.and_eq_true, decide_eq_true_eq] at this
    exact ⟨rfl, by rw [this.2]; rfl⟩
  · exact ⟨rfl, rfl⟩
theorem cl_okO (s : Bool) (m : Nat) (l : List (Int × List Nat)) : (l.map (clO s m)).all okO = l.all okO := by
  rw [List.all_map]
  congr 1
  funext o
  simp only [Function.comp, okO, (clO_kind s m o).1, (clO_kind s m o).2]
theorem cl_lens (s : Bool) (m : Nat) (l : List (Int × List Nat)) : lensOk (l.map (clO s m)) = lensOk l := by
  unfold lensOk
  rw [List.all_map]
  congr 1
  funext o
  simp only [Function.comp, (clO_kind s m o).1, (clO_kind s m o).2]
theorem cl_flat (s : Bool) (m : Nat) (l : List (Int × List Nat)) : (flatI (l.map (clO s m))).length = (flatI l).length := by
  unfold flatI
  induction l with
  | nil => rfl
  | cons o l ih =>
    simp only [List.map_cons, I4.flatO_cons]
    rw [ih]
    show (clO s m o).2.length + 2 + _ = o.2.length + 2 + _
    rw [(clO_kind s m o).2]
theorem cl_put (s : Bool) (m : Nat) (l : List (Int × List Nat)) : putOk (l.map (clO s m)) = putOk l ∧ (putO (l.map (clO s m))).length = (putO l).length := by
  have e : putOk (l.map (clO s m)) = putOk l := by unfold putOk; rw [cl_okO, cl_flat]
  refine ⟨e, ?_⟩
  unfold putO
  rw [e]
  split
  · rw [I4.pad4_len, I4.pad4_len, cl_flat]
  · rfl
theorem cl_chk (s : Bool) (m : Nat) (t : T9) : tChk { t with os := t.os.map (clO s m) } = tChk t := by
  have e1 : tPutOk (t.os.map (clO s m)) = tPutOk t.os := by unfold tPutOk; rw [(cl_put s m t.os).1, cl_lens]
  have e2 := (cl_put s m t.os).2
  unfold tChk
  show (if tOkF t = true then (if tPutOk (t.os.map (clO s m)) = true then (if 65535 < 20 + (putO (t.os.map (clO s m))).length + t.d.length then 2 else 0) else 97) else 98) = _
  rw [e1, e2]
end Go.Proofs.YtfoeepbndfnifaaGreatDoor.L4
namespace Go.Proofs.YtfoeepbndfnifaaGreatDoor
open Go.RowKit
namespace F9
def rep (n : Nat) (mk : List Value) : List Value := (List.replicate n mk).flatten
theorem rep_len (n : Nat) (mk : List Value) : (rep n mk).length = n * mk.length := by simp [rep]
theorem rep_zero (mk : List Value) : rep 0 mk = [] := rfl
theorem rep_add (n k : Nat) (mk : List Value) : rep (n + k) mk = rep n mk ++ rep k mk := by
  unfold rep
  rw [← List.replicate_append_replicate, List.flatten_append]
theorem rep_take (n N : Nat) (mk : List Value) (h : n ≤ N) : (rep N mk).take (n * mk.length) = rep n mk := by
  obtain ⟨k, rfl⟩ : ∃ k, N = n + k := ⟨N - n, by omega⟩
  rw [rep_add, List.take_append_of_le_length (by rw [rep_len]; exact Nat.le_refl _), List.take_of_length_le (by rw [rep_len]; exact Nat.le_refl _)]
theorem rep_get (n : Nat) (x : Value) (j : Nat) (h : j < n) : (rep n [x])[j]? = some x := by
  have e : rep n [x] = List.replicate n x := by
    unfold rep
    induction n with
    | zero => rfl
    | succ n ih => rw [List.replicate_succ, List.flatten_cons, List.replicate_succ]; by_cases hj : j < n <;> simp_all [List.flatten_replicate_singleton]
  rw [e]
  simp [h]

theorem append_splitW {P : Program} {w : World} {ops : Array Oper} {rest : List Oper} {o : Oper} {a : Act} {Q : Exit → Act → World → Prop} (sz : Nat) (hsz : 0 < sz) (hgd : o.guard = none) (s x : Operand) (t : TypeId)
    (ho : o.op = .call { callee := .builtin .append, args := #[s, x], argTypes := #[t, t] })
    (base : Nat) (e : TypeId) (i : TypeInfo) (z : Value) (bytes : Nat) (ht : P.underlying t = some (.slice e)) (hi : P.info? e = some i) (hz : i.zero = some z)
    (hsize : i.size = sz) (hby : i.bytes = bytes) (hzs : z.cells.size = sz)
    (v : Value) (n : Nat) (xs : List Value) (hs : a.eval s = v) (hown : w.ownsRow base e sz v n xs)
    (ad : Addr) (m c : Nat) (news : List Value) (hx : a.eval x = .slice (some ad) m c) (hl : news.length = m * sz) (hnews : ∀ j u, news[j]? = some u → w.cell? (ad.add j) = some u) (h1 : ∀ u ∈ news, u.oneCell' = true)
    (h63 : n + m ≤ maxLen) (hbytes : (n + m) * bytes ≤ 140737488355328) (hbase : base ≤ w.heap.size)
    (h : ∀ v' w', w'.ownsRow base e sz v' (n + m) (xs ++ news) → ((w.grownBy w' none ∧ ∀ q, v'.ownBlock = some q → w.heap.size ≤ q) ∨ (∃ g cap, v = .slice (some ⟨g, 0, none⟩) n cap ∧ v' = .slice (some ⟨g, 0, none⟩) (n + m) cap ∧ w.grownBy w' (some g))) → wpList P ops Q rest (a.put o.dst v') w') : wpList P ops Q (o :: rest) a w := by
  rcases hown.2 with ⟨rfl, rfl⟩ | ⟨g, cap, cur, rfl, hbg, hg, hnc, hcm, hcs, htake⟩
  · have hx0 : xs = [] := List.eq_nil_of_length_eq_zero (by have := hown.1; simpa using this)
    subst hx0
    refine wpList_append_own_at w hgd s x t ho w.heap.size e i z sz bytes ht hi hz hsize hby hzs hsz (.slice none 0 0) 0 [] hs (World.ownsRow_nil _ _ _ _) ad m c news hx hl hnews h1 h63 hbytes (Nat.le_refl _) ?_
    intro v' w' r1 r2 _ _
    exact h v' w' (owns_mono r1 hbase) (.inl ⟨r2, fun q hq => (r1.lt q hq).1⟩)
  · by_cases hroom : n + m ≤ cap
    · refine wpList_append_own_spare w hgd s x t ho base e i sz ht hi hsize g n cap xs hs hown ad m c news hx hl hnews h1 hroom ?_
      intro w' r1 r2
      exact h _ w' r1 (.inr ⟨g, cap, rfl, rfl, r2⟩)
    · refine wpList_plain hgd fun K hK => ?_
      obtain ⟨v', w', hrun, r1, r2⟩ := run_append_arg_grows (P := P) w t o.type e i z sz bytes ht hi hz hsize hby hzs hsz ⟨g, 0, none⟩ n cap xs hown.1 (hown.cells rfl) ad m c news hl hnews (by omega) h63 hbytes
      unfold Oper.wp
      simp [execOp, ho, resolve, invoke, builtin, hs, hx, hrun, Result.andThen]
      exact hK _ _ (h v' w' (owns_mono r1 hbase) (.inl ⟨r2, fun q hq => (r1.lt q hq).1⟩))

/-- a row and what was appended to it: all bear the mark -/
structure Fy (w : World) (base : Nat) (e : TypeId) (mk : List Value) (lv : Value) (n T : Nat) (F : List (Value × Nat)) : Prop where
  own : w.ownsRow base e mk.length lv n (rep n mk)
  mem : ∀ r, r ∈ F → w.ownsRow base e mk.length r.1 r.2 (rep r.2 mk) ∧ r.2 ≤ n + T
theorem Fy.ch {S : Nat → Prop} {w w' : World} {base : Nat} {e : TypeId} {mk : List Value} {lv : Value} {n T : Nat} {F : List (Value × Nat)} (h : Fy w base e mk lv n T F) (k : Ch S w w') (h1 : ∀ q, lv.ownBlock = some q → ¬ S q) (h2 : ∀ r, r ∈ F → ∀ q, r.1.ownBlock = some q → ¬ S q) : Fy w' base e mk lv n T F :=
  ⟨k.owns h.own h1, fun r hr => ⟨k.owns (h.mem r hr).1 (h2 r hr), (h.mem r hr).2⟩⟩
theorem Fy.below {w w' : World} {base : Nat} {e : TypeId} {mk : List Value} {lv : Value} {n T : Nat} {F : List (Value × Nat)} (h : Fy w base e mk lv n T F) (k : Below w.heap.size w w') : Fy w' base e mk lv n T F := h.ch (Ch.ofBelow (S := fun _ => False) k) (fun _ _ => id) (fun _ _ _ _ => id)
theorem owns_prefix {w w' : World} {base g cap N : Nat} {e : TypeId} {mk : List Value} (hmk : 0 < mk.length) (h' : w'.ownsRow base e mk.length (.slice (some ⟨g, 0, none⟩) N cap) N (rep N mk)) {r : Value} {m : Nat} (hr : w.ownsRow base e mk.length r m (rep m mk)) (hrg : r.ownBlock = some g) {capl n : Nat} {lx : List Value} (hl : w.ownsRow base e mk.length (.slice (some ⟨g, 0, none⟩) n capl) n lx) (hcap : capl = cap) (hm : m ≤ N) : w'.ownsRow base e mk.length r m (rep m mk) := by
  rcases hr.2 with ⟨rfl, _⟩ | ⟨g2, c2, cur2, rfl, b2, hh2, n2, m2, s2, t2⟩
  · simp [Value.ownBlock] at hrg
  · simp only [Value.ownBlock, Option.some.injEq] at hrg
    subst hrg
    rcases hl.2 with ⟨q, _⟩ | ⟨g3, c3, cur3, e3, b3, hh3, n3, m3, s3, t3⟩
    · simp at q
    · simp only [Value.slice.injEq, Option.some.injEq, Addr.mk.injEq, and_true, true_and] at e3
      obtain ⟨rfl, rfl⟩ := e3
      rw [hh2] at hh3
      simp only [Option.some.injEq, Obj.cells.injEq, and_true] at hh3
      subst hh3
      have hc2 : c2 = capl := by
        have : c2 * mk.length = capl * mk.length := by rw [← s2, ← s3]
        exact Nat.eq_of_mul_eq_mul_right hmk this
      rcases h'.2 with ⟨q, _⟩ | ⟨g4, c4, cur4, e4, b4, hh4, n4, m4, s4, t4⟩
      · simp at q
      · simp only [Value.slice.injEq, Option.some.injEq, Addr.mk.injEq, and_true, true_and] at e4
        obtain ⟨rfl, rfl⟩ := e4
        refine ⟨hr.1, .inr ⟨g2, c2, cur4, rfl, b2, hh4, n2, m2, by rw [s4, hc2, hcap], ?_⟩⟩
        rw [← rep_take m N mk hm, ← t4, List.take_take, Nat.min_eq_left (Nat.mul_le_mul_right _ hm)]
theorem append_fy {P : Program} {w : World} {ops : Array Oper} {rest : List Oper} {o : Oper} {a : Act} {Q : Exit → Act → World → Prop} (hgd : o.guard = none) (s x : Operand) (t : TypeId)
    (ho : o.op = .call { callee := .builtin .append, args := #[s, x], argTypes := #[t, t] })
    (base : Nat) (e : TypeId) (i : TypeInfo) (z : Value) (bytes : Nat) (mk : List Value) (hmk : 0 < mk.length) (ht : P.underlying t = some (.slice e)) (hi : P.info? e = some i) (hz : i.zero = some z)
    (hsize : i.size = mk.length) (hby : i.bytes = bytes) (hzs : z.cells.size = mk.length)
    (lv : Value) (n T : Nat) (F : List (Value × Nat)) (hs : a.eval s = lv) (hf : Fy w base e mk lv n T F)
    (ad : Addr) (m c : Nat) (hx : a.eval x = .slice (some ad) m c) (hT : T ≤ m) (hnews : ∀ j u, (rep m mk)[j]? = some u → w.cell? (ad.add j) = some u) (h1 : ∀ u ∈ mk, u.oneCell' = true)
    (h63 : n + m ≤ maxLen) (hbytes : (n + m) * bytes ≤ 140737488355328) (hbase : base ≤ w.heap.size)
    (h : ∀ v' w', Hid (Fy w' base e mk lv n m (F ++ [(v', n + m)]) ∧ Ch (fun q => lv.ownBlock = some q) w w' ∧ (∀ q, v'.ownBlock = some q → lv.ownBlock = some q ∨ w.heap.size ≤ q) ∧ (∃ a2 c2, v' = .slice a2 (n + m) c2)) → wpList P ops Q rest (a.put o.dst v') w') : wpList P ops Q (o :: rest) a w := by
  refine append_splitW mk.length hmk hgd s x t ho base e i z bytes ht hi hz hsize hby hzs lv n (rep n mk) hs hf.own ad m c (rep m mk) hx (rep_len m mk) hnews ?_ h63 hbytes hbase ?_
  · intro u hu
    unfold rep at hu
    rw [List.mem_flatten] at hu
    obtain ⟨l, hl, hul⟩ := hu
    rw [List.mem_replicate] at hl
    rw [hl.2] at hul
    exact h1 u hul
  · intro v' w' r1 r2
    rw [← rep_add] at r1
    obtain ⟨a2, c2, hsh⟩ := owns_shape r1
    rcases r2 with ⟨g1, g2⟩ | ⟨g, cap, rfl, rfl, g1⟩
    · have k : Ch (fun _ => False) w w' := (Ch.ofGrown g1).mono (fun x _ q => by simp at q)
      refine h v' w' ⟨⟨k.owns hf.own (fun _ _ => id), ?_⟩, k.mono (fun _ _ q => q.elim), fun q hq => .inr (g2 q hq), ⟨a2, c2, hsh⟩⟩
      intro r hr
      rcases List.mem_append.1 hr with q | q
      · exact ⟨k.owns (hf.mem r q).1 (fun _ _ => id), by have := (hf.mem r q).2; omega⟩
      · rw [List.mem_singleton.1 q]; exact ⟨r1, Nat.le_refl _⟩
    · have k : Ch (fun q => q = g) w w' := (Ch.ofGrown g1).mono (fun x _ q => by simp at q; exact q.symm)
      refine h _ w' ⟨⟨?_, ?_⟩, k.mono (fun x _ q => by rw [q]; rfl), fun q hq => .inl hq, ⟨_, _, rfl⟩⟩
      · exact owns_prefix hmk r1 hf.own rfl hf.own rfl (by omega)
      · intro r hr
        rcases List.mem_append.1 hr with q | q
        · have hm := hf.mem r q
          refine ⟨?_, by omega⟩
          by_cases e : r.1.ownBlock = some g
          · exact owns_prefix hmk r1 hm.1 e hf.own rfl (by omega)
          · exact k.owns hm.1 (fun x hx e2 => e (by rw [← e2]; exact hx))
        · rw [List.mem_singleton.1 q]; exact ⟨r1, Nat.le_refl _⟩
end F9
end Go.Proofs.YtfoeepbndfnifaaGreatDoor
namespace Go.Proofs.YtfoeepbndfnifaaGreatDoor
open Go.RowKit
open L4 (U9 T9)

set_option maxHeartbeats 800000 in
set_option maxRecDepth 100000 in
theorem copied_any (a : Option Addr) (n cap : Nat) (l : List Nat) (w : World) (hn : l.length = n) (hs : Seg .u8 w a (toI l)) (hm : n ≤ 140737488355328) :
    Calls Tryz.prog 47 #[.slice a n cap] w fun e w' => ∃ v, e = .returned v ∧ w'.ownsRow w.heap.size 5 1 v n ((toI l).map (Value.int .u8)) ∧ Below w.heap.size w w' := by
  obtain ⟨i0, hi, hz0, hz1, hz2⟩ := info_parts Tryz.infoByte
  have HN : Hid (l.length = n) := hn
  have HS : Hid (Seg .u8 w a (toI l)) := hs
  clear hn hs
  go_enter Tryz.func47, Tryz.ntmps47
  go_wp2_with (first | (at_builtin; refine append_split_seg rfl (.tmp 4) (.tmp 5) 28 rfl w.heap.size 5 i0 (.int .u8 0) 1 Tryz.underlying28 hi hz0 hz1 hz2 rfl (.slice none 0 0) 0 [] rfl (World.ownsRow_nil _ _ _ _) .u8 a n cap (toI l) rfl (by rw [toI_len]; exact HN.out) HS.out (by unfold maxLen; omega) (by omega) (Nat.le_refl _) ?_))
  intro v' w' ho hq hg
  have hb : Below w.heap.size w w' := (Below.refl _ _).grown hg (Nat.le_refl _) (by intro k hk; simp [Value.ownBlock] at hk)
  have HO : Hid (w'.ownsRow w.heap.size 5 1 v' n ((toI l).map (Value.int .u8))) := by
    have h1 : w'.ownsRow w.heap.size 5 1 v' n ((toI l).map (Value.int .u8)) := by simpa using ho
    exact h1
  clear ho hq hg
  go_wp2
  go_ret
  exact ⟨_, rfl, HO.out, hb⟩
theorem kindN {w : World} {B : Nat} {e : TypeId} {sz : Nat} {v : Value} {n : Nat} {xs : List Value} (h : w.ownsRow B e sz v n xs) : ∀ g, v.ownBlock = some g → ∃ c, w.heap[g]? = some (.cells c e (0, 0)) := by
  intro g hg
  rcases h.2 with ⟨rfl, _⟩ | ⟨g', cap, cur, rfl, _, hh, _⟩
  · simp [Value.ownBlock] at hg
  · simp [Value.ownBlock] at hg; subst hg; exact ⟨cur, hh⟩
theorem apartN {w : World} {B B' : Nat} {e e' : TypeId} {s s' : Nat} {v v' : Value} {n n' : Nat} {xs xs' : List Value} (h : w.ownsRow B e s v n xs) (h' : w.ownsRow B' e' s' v' n' xs') (hne : e ≠ e') : v.ownBlock = none ∨ v.ownBlock ≠ v'.ownBlock := by
  cases hv : v.ownBlock with
  | none => exact .inl rfl
  | some g =>
    refine .inr (fun hc => hne ?_)
    obtain ⟨c, hc1⟩ := kindN h g hv
    obtain ⟨c', hc2⟩ := kindN h' g hc.symm
    rw [hc1] at hc2
    simp at hc2
    exact hc2.2
def opC9 (o : OpV) : List Value := [.int .i64 o.k, .slice o.a o.d.length o.c]
def opCs (ps : List OpV) : List Value := ps.flatMap opC9
theorem opCs_snoc (ps : List OpV) (p : OpV) : opCs (ps ++ [p]) = opCs ps ++ opC9 p := by simp [opCs]
theorem opCs_get (ps : List OpV) (i : Nat) (o : OpV) (h : ps[i]? = some o) : (opCs ps)[i * 2]? = some (.int .i64 o.k) ∧ (opCs ps)[i * 2 + 1]? = some (.slice o.a o.d.length o.c) := by
  induction ps generalizing i with
  | nil => simp at h
  | cons p ps ih =>
    have e : opCs (p :: ps) = .int .i64 p.k :: .slice p.a p.d.length p.c :: opCs ps := by simp [opCs, opC9]
    rw [e]
    cases i with
    | zero => simp at h; subst h; exact ⟨rfl, rfl⟩
    | succ i =>
      have := ih i (by simpa using h)
      rw [show (i + 1) * 2 = i * 2 + 1 + 1 by omega, show i * 2 + 1 + 1 + 1 = (i * 2 + 1) + 1 + 1 by omega]
      simpa using this
/-- the state of CloneOpts' loop -/
structure CoS (w : World) (os : List OpV) (v : Value) (k : Nat) (ps : List OpV) (wr : World) : Prop where
  own : wr.ownsRow w.heap.size 76 2 v ps.length (opCs ps)
  rows : ∀ p ∈ ps, wr.ownsRow w.heap.size 5 1 (.slice p.a p.d.length p.c) p.d.length ((toI p.d).map (Value.int .u8))
  vs : vals ps = (vals os).take k
  bel : Below w.heap.size w wr
  dis : ps.Pairwise (fun a b => ∀ z y, a.a = some z → b.a = some y → z.block ≠ y.block)
theorem CoS.len {w wr : World} {os ps : List OpV} {v : Value} {k : Nat} (h : CoS w os v k ps wr) (hk : k ≤ os.length) : ps.length = k := by
  have := congrArg List.length h.vs
  simp only [vals, List.length_map, List.length_take] at this
  omega
theorem CoS.below {w wr w' : World} {os ps : List OpV} {v : Value} {k : Nat} (h : CoS w os v k ps wr) (b : Below wr.heap.size wr w') : CoS w os v k ps w' :=
  ⟨(Ch.ofBelow (S := fun _ => False) b).owns h.own (fun _ _ => id), fun p hp => (Ch.ofBelow (S := fun _ => False) b).owns (h.rows p hp) (fun _ _ => id), h.vs, h.bel.trans (b.mono h.bel.size), h.dis⟩
theorem CoS.opts {w wr : World} {os ps : List OpV} {la : Option Addr} {n lc k : Nat} (h : CoS w os (.slice la n lc) k ps wr) (hn : ps.length = n) (ho : ∀ o ∈ vals os, ∀ x ∈ o.2, x < 256) : OptsAt wr la ps := by
  have hown := h.own
  rw [hn] at hown
  rcases hown.2 with ⟨_, h0⟩ | ⟨g, cap, cur, e, _, hg, _, _, _, ht⟩
  · left; exact List.eq_nil_of_length_eq_zero (by omega)
  · simp only [Value.slice.injEq, true_and] at e
    obtain ⟨rfl, rfl⟩ := e
    refine .inr ⟨g, 0, rfl, (Array.getElem?_eq_some_iff.1 hg).1, fun i o hi => ?_⟩
    have hpm := List.mem_of_getElem? hi
    have hin : i < n := by have := (List.getElem?_eq_some_iff.1 hi).1; omega
    obtain ⟨c1, c2⟩ := opCs_get ps i o hi
    have d1 := hown.cellAt (i * 2) (by omega)
    have d2 := hown.cellAt (i * 2 + 1) (by omega)
    rw [c1] at d1
    rw [c2] at d2
    obtain ⟨a', c', e1, hsg, _, q1, q2⟩ := owns_seg (h.rows o hpm)
    simp only [Value.slice.injEq, true_and] at e1
    refine ⟨⟨by rw [e1.1]; exact hsg, ?_, by rw [e1.2]; exact q1, by rw [e1.2]; unfold maxLen at q2; exact q2⟩, by rw [Nat.zero_add]; exact d1, by rw [Nat.zero_add]; exact d2⟩
    have hv : o.val ∈ vals os := by
      have : o.val ∈ vals ps := List.mem_map.2 ⟨o, hpm, rfl⟩
      rw [h.vs] at this
      exact List.mem_of_mem_take this
    exact ho _ hv
set_option maxHeartbeats 6400000 in
set_option maxRecDepth 100000 in
theorem cloneOpts_any (la : Option Addr) (n cap : Nat) (os : List OpV) (w : World) (hn : os.length = n) (ho : OptsAt w la os) (hb : n ≤ 1048576) (hd : ∀ o ∈ os, o.d.length ≤ 1048576) :
    Calls Tryz.prog 48 #[.slice la n cap] w fun e w' => ∃ lb lc, e = .returned (.slice lb n lc) ∧ Below w.heap.size w w' ∧ ∃ ps : List OpV, ps.length = n ∧ vals ps = vals os ∧ OptsAt w' lb ps ∧ CoS w os (.slice lb n lc) n ps w' := by
  obtain ⟨i0, hi, hz0, hz1, hz2⟩ := info_parts Tryz.infoOpt
  have HN : Hid (os.length = n) := hn
  have HO : Hid (OptsAt w la os) := ho
  have HD : Hid (∀ o ∈ os, o.d.length ≤ 1048576) := hd
  have HS0 : Hid (CoS w os (.slice none 0 0) 0 [] w) := ⟨World.ownsRow_nil _ _ _ _, by simp, by simp [vals], Below.refl _ _, List.Pairwise.nil⟩
  clear hn ho hd
  go_enter Tryz.func48, Tryz.ntmps48
  go_wp2
  go_loopw [3, 4] (fun l ix wr => ∃ (k : Nat) (v : Value) (ps : List OpV), v = l ∧ ix = .int .i64 k ∧ k ≤ n ∧ Hid (CoS w os v k ps wr)) (fun _ ix _ => n - (intOf ix).toNat)
  case atStart => exact ⟨0, _, [], rfl, rfl, Nat.zero_le _, HS0⟩
  case round =>
    obtain ⟨k, v, ps, rfl, rfl, hk, HS⟩ := hrel
    by_cases hlt : k < n
    · obtain ⟨o, hok⟩ : ∃ o, os[k]? = some o := ⟨_, List.getElem?_eq_getElem (by rw [HN.out]; exact hlt)⟩
      obtain ⟨b1, o1, rfl, hl1, ok1, c10, c11⟩ := HO.out.at k o hok
      have hdl := HD.out o (List.mem_of_getElem? hok)
      obtain ⟨kd, hkd⟩ : ∃ kd, kd = o.k := ⟨_, rfl⟩
      obtain ⟨D, hDD⟩ : ∃ D, D = o.d.length := ⟨_, rfl⟩
      rw [← hkd] at c10
      rw [← hDD] at c11 hdl
      have F10 : Hid (∀ x, Below w.heap.size w x → x.cell? ⟨b1, o1 + k * 2, none⟩ = some (.int .i64 kd)) := fun x hx => (hx.cell (p := ⟨b1, o1 + k * 2, none⟩) hl1).trans c10
      have F11 : Hid (∀ x, Below w.heap.size w x → x.cell? ⟨b1, o1 + k * 2 + 1, none⟩ = some (.slice o.a D o.c)) := fun x hx => (hx.cell (p := ⟨b1, o1 + k * 2 + 1, none⟩) hl1).trans c11
      have QQ : Hid (∀ x, Below w.heap.size w x → Calls Tryz.prog 47 #[.slice o.a D o.c] x fun e w' => ∃ v, e = .returned v ∧ w'.ownsRow x.heap.size 5 1 v D ((toI o.d).map (Value.int .u8)) ∧ Below x.heap.size x w') := fun x hx => copied_any o.a D o.c o.d x hDD.symm (ok1.seg.old hx) (by omega)
      have HVO : Hid (os[k]? = some o) := hok
      have HKD : Hid (kd = o.k) := hkd
      have HDD : Hid (D = o.d.length) := hDD
      have k0 : (0 : Int) ≤ (k : Int) := by omega
      have k1 : (k : Int) < (n : Int) := by omega
      have k2 : ((k : Int)).toNat = k := by omega
      have wk : IntKind.i64.wrap ((k : Int) + 1) = (k : Int) + 1 := by rw [IntKind.wrap_i64]; omega
      clear hok ok1 c10 c11 hkd hDD hl1
      go_wp2
      refine MixH.start (fun x => Below w.heap.size w x) (by kernel_rfl) ?_
      obtain ⟨wA, hwA⟩ : ∃ wA, wA = wr.drew := ⟨_, rfl⟩
      have HSA : Hid (CoS w os v k ps wA) := by rw [hwA]; exact HS.out.below (Below.refl _ _).drew
      have hS : Below w.heap.size w wA := HSA.out.bel
      rw [← hwA]
      clear hwA HS
      refine MixH.takes [true, true, true, true, true, false, true, true, true, true] 7 (by kernel_rfl) (by kernel_rfl) (by decide) (by kernel_rfl) hS (fun K hK => ?_)
      simp only [Mix.pick]
      repeat (go_big_quiet_step (fail))
      refine wpQuiet_nil (hK _ ?_)
      clear hK K
      refine MixH.take 6 5 _ (.int .i64 kd) rfl (by kernel_rfl) (by kernel_rfl) (by kernel_rfl) (by kernel_rfl) (yields_int (.tmp 15) rfl ⟨b1, o1 + k * 2, none⟩ _ rfl rfl F10.out) hS (fun a' ha => ?_)
      simp only [Act.put, List.setIfInBounds_toArray, List.set_cons_succ, List.set_cons_zero] at ha
      subst ha
      refine MixH.take 5 10 _ (.slice o.a D o.c) rfl (by kernel_rfl) (by kernel_rfl) (by kernel_rfl) (by kernel_rfl) (yields_bytes (.tmp 20) rfl ⟨b1, o1 + k * 2 + 1, none⟩ _ rfl rfl F11.out) hS (fun a' ha => ?_)
      simp only [Act.put, List.setIfInBounds_toArray, List.set_cons_succ, List.set_cons_zero] at ha
      subst ha
      refine MixH.one [false, false, false, false, false, false, false, false, false, false, false, true] 4 11 _ rfl rfl (by kernel_rfl) (by kernel_rfl) (fun K hK => ?_)
      simp only [Mix.pick]
      go_wp2_with fail
      refine Calls.mono (QQ.out wA hS) ?_
      rintro e w1 ⟨v1, rfl, ho1, hb1⟩
      obtain ⟨va, vc, rfl⟩ := owns_shape ho1
      have HSB : Hid (CoS w os v k ps w1) := HSA.out.below hb1
      have HO1 : Hid (w1.ownsRow w.heap.size 5 1 (.slice va D vc) D ((toI o.d).map (Value.int .u8))) := owns_mono ho1 hS.size
      have HNW : Hid (∀ p ∈ ps, ∀ z y, p.a = some z → va = some y → z.block ≠ y.block) := fun p hp z y hz hy e => by
        have h1 := ((HSA.out.rows p hp).lt z.block (by rw [hz]; rfl)).2
        have h2 := (ho1.lt y.block (by rw [hy]; rfl)).1
        omega
      replace hS : Below w.heap.size w w1 := HSB.out.bel
      clear ho1 hb1 HSA QQ
      go_wp2
      refine ⟨rfl, hK _ _ hS ?_⟩
      clear hK K
      refine MixH.one [false, false, false, false, false, false, false, false, false, false, false, false, true] 3 12 _ rfl rfl (by kernel_rfl) (by kernel_rfl) (fun K hK => ?_)
      simp only [Mix.pick]
      go_wp2
      refine ⟨rfl, hK _ _ hS ?_⟩
      clear hK K
      refine MixH.one [false, false, false, false, false, false, false, false, false, false, false, false, false, true] 2 13 _ rfl rfl (by kernel_rfl) (by kernel_rfl) (fun K hK => ?_)
      simp only [Mix.pick]
      have hSn : Below w.heap.size w (w1.alloc (.cells #[.int .i64 kd, .slice va D vc] 76)) := hS.alloc hS.size _
      go_wp2
      clear hS
      have hS := hSn
      refine ⟨rfl, hK _ _ hS ?_⟩
      clear hK K
      obtain ⟨w2, hw2⟩ : ∃ w2, w2 = w1.alloc (.cells #[.int .i64 kd, .slice va D vc] 76) := ⟨_, rfl⟩
      have b12 : Below w1.heap.size w1 w2 := by rw [hw2]; exact (Below.refl _ _).alloc (Nat.le_refl _) _
      have HSC : Hid (CoS w os v k ps w2) := HSB.out.below b12
      have HO2 : Hid (w2.ownsRow w.heap.size 5 1 (.slice va D vc) D ((toI o.d).map (Value.int .u8))) := (Ch.ofBelow (S := fun _ => False) b12).owns HO1.out (fun _ _ => id)
      have TWO : Hid (∀ j u, ([.int .i64 kd, .slice va D vc] : List Value)[j]? = some u → w2.cell? ((⟨w1.heap.size, 0, none⟩ : Addr).add j) = some u) := by rw [hw2]; exact two_new _ _ _ _
      have hpl : ps.length = k := HSC.out.len (by rw [HN.out]; omega)
      have hown : w2.ownsRow w.heap.size 76 2 v k (opCs ps) := by have := HSC.out.own; rw [hpl] at this; exact this
      have hsz : w.heap.size ≤ w2.heap.size := HSC.out.bel.size
      rw [← hw2] at hS hSn ⊢
      clear hw2 b12 HSB HO1 hSn hpl
      refine MixH.one [false, false, false, false, false, false, false, false, false, false, false, false, false, false, true] 1 14 _ rfl rfl (by kernel_rfl) (by kernel_rfl) (fun K hK => ?_)
      simp only [Mix.pick]
      refine wpList_append_own_at _ rfl (.tmp 11) (.tmp 24) 31 rfl w.heap.size 76 i0 _ 2 32 Tryz.underlying31 hi hz0 hz1 hz2 rfl (by decide) v k (opCs ps) rfl hown ⟨w1.heap.size, 0, none⟩ 1 1 [.int .i64 kd, .slice va D vc] rfl rfl TWO.out ?c2 ?c3 ?c4 hsz ?_
      case c2 => intro u hu; simp at hu; rcases hu with rfl | rfl <;> rfl
      case c3 => unfold maxLen; omega
      case c4 => omega
      intro v5 w5 ho5 hg5 _ hblk
      have HS5 : Hid (CoS w os v5 (k + 1) (ps ++ [⟨kd, va, vc, o.d⟩]) w5) := by
        have hpl : ps.length = k := HSC.out.len (by rw [HN.out]; omega)
        have hne : 5 ≠ 76 := by decide
        refine ⟨?_, ?_, ?_, ?_, ?_⟩
        · rw [opCs_snoc, List.length_append, hpl]
          have e2 : opC9 ⟨kd, va, vc, o.d⟩ = [.int .i64 kd, .slice va D vc] := by rw [opC9, ← HDD.out]
          rw [e2]
          exact ho5
        · intro p hp
          rcases List.mem_append.1 hp with hp | hp
          · exact (HSC.out.rows p hp).kept hg5 (apartN (HSC.out.rows p hp) HSC.out.own hne)
          · simp at hp
            subst hp
            show w5.ownsRow w.heap.size 5 1 (.slice va o.d.length vc) o.d.length _
            rw [← HDD.out]
            exact HO2.out.kept hg5 (apartN HO2.out HSC.out.own hne)
        · rw [vals_take os k o HVO.out, vals, List.map_append]
          have := HSC.out.vs
          rw [vals] at this
          rw [this]
          simp [OpV.val, HKD.out]
        · exact HSC.out.bel.grown hg5 hsz (fun q hq => (HSC.out.own.lt q hq).1)
        · rw [List.pairwise_append]
          refine ⟨HSC.out.dis, List.pairwise_singleton _ _, fun p hp q hq => ?_⟩
          simp at hq
          subst hq
          exact fun z y hz hy => HNW.out p hp z y hz hy
      replace hS : Below w.heap.size w w5 := HS5.out.bel
      clear ho5 hg5 hblk hown HSC HO2 TWO
      go_wp2
      refine ⟨rfl, hK _ _ hS ?_⟩
      clear hK K
      refine MixH.takes [false, false, false, false, false, false, false, false, false, false, false, false, false, false, false, true] 0 (by kernel_rfl) (by kernel_rfl) (by decide) (by kernel_rfl) hS (fun K hK => ?_)
      simp only [Mix.pick]
      repeat (go_big_quiet_step (fail))
      refine wpQuiet_nil (hK _ ?_)
      clear hK K
      refine MixH.done (by kernel_rfl) ?_
      go_wp2
      go_roundw
      case rel => exact ⟨k + 1, v5, _, rfl, by go_num, by omega, HS5⟩
      case measure => simp [intOf]; omega
    · have hkn : k = n := by omega
      subst hkn
      have hni : ¬ ((k : Int) < (k : Int)) := by omega
      have hpl : ps.length = k := HS.out.len (by rw [HN.out]; exact Nat.le_refl _)
      obtain ⟨lb, lc, rfl⟩ := owns_shape HS.out.own
      rw [hpl] at HS ⊢
      have HV : Hid (vals ps = vals os) := by show _ = _; rw [HS.out.vs, List.take_of_length_le (by simp [vals, HN.out])]
      have HP : Hid (ps.length = k) := hpl
      clear hlt hpl
      go_wp2
      go_ret
      exact ⟨lb, lc, rfl, HS.out.bel, ps, HP.out, HV.out, HS.out.opts HP.out (opts_256 HO.out), HS.out⟩
theorem OptsAt.ch {S : Nat → Prop} {w w' : World} {la : Option Addr} {os : List OpV} (h : OptsAt w la os) (c : Ch S w w') (h1 : ∀ x, la = some x → ¬ S x.block) (h2 : ∀ o ∈ os, ∀ x, o.a = some x → ¬ S x.block) : OptsAt w' la os := by
  rcases h with h | ⟨b, off, ha, hlt, hc⟩
  · exact .inl h
  · have hb := h1 _ ha
    refine .inr ⟨b, off, ha, Nat.lt_of_lt_of_le hlt c.size, fun i o ho => ?_⟩
    obtain ⟨q1, q2, q3⟩ := hc i o ho
    exact ⟨⟨c.seg q1.seg (fun x _ hx => h2 o (List.mem_of_getElem? ho) x hx), q1.h256, q1.le, q1.cap⟩, c.cell q2 hb, c.cell q3 hb⟩
theorem own_addr {w : World} {B : Nat} {e : TypeId} {s n m c : Nat} {a : Option Addr} {xs : List Value} (h : w.ownsRow B e s (.slice a n c) m xs) (x : Addr) (hx : a = some x) : B ≤ x.block := by
  rcases h.2 with ⟨h0, _⟩ | ⟨g, cap, cur, e1, hb, _⟩
  · simp only [Value.slice.injEq] at h0
    rw [hx] at h0
    simp at h0
  · simp only [Value.slice.injEq] at e1
    rw [hx] at e1
    have := Option.some.inj e1.1
    rw [this]
    exact hb

theorem uAt_set3 {w : World} {O : Nat} {u : U9} {da : Option Addr} {n c : Nat} (k : UAt w O u da n c) (db : Option Addr) (m dc : Nat) : UAt (w.setCell ⟨O, 3, none⟩ (.slice db m dc)) O u db m dc ∧ Ch (fun q => q = O) w (w.setCell ⟨O, 3, none⟩ (.slice db m dc)) := by
  refine ⟨?_, (Ch.refl (fun q => q = O) w).set _ _ rfl⟩
  unfold UAt at k ⊢
  rw [heap_setCell_same w O 3 _ _ _ k]
  rfl
theorem tAt_set7 {w : World} {O : Nat} {t : T9} {la : Option Addr} {ln lc : Nat} {da : Option Addr} {n c : Nat} (k : TAt w O t la ln lc da n c) (lb : Option Addr) (m dc : Nat) : TAt (w.setCell ⟨O, 7, none⟩ (.slice lb m dc)) O t lb m dc da n c ∧ Ch (fun q => q = O) w (w.setCell ⟨O, 7, none⟩ (.slice lb m dc)) := by
  refine ⟨?_, (Ch.refl (fun q => q = O) w).set _ _ rfl⟩
  unfold TAt at k ⊢
  rw [heap_setCell_same w O 7 _ _ _ k]
  rfl
theorem tAt_set8 {w : World} {O : Nat} {t : T9} {la : Option Addr} {ln lc : Nat} {da : Option Addr} {n c : Nat} (k : TAt w O t la ln lc da n c) (db : Option Addr) (m dc : Nat) : TAt (w.setCell ⟨O, 8, none⟩ (.slice db m dc)) O t la ln lc db m dc ∧ Ch (fun q => q = O) w (w.setCell ⟨O, 8, none⟩ (.slice db m dc)) := by
  refine ⟨?_, (Ch.refl (fun q => q = O) w).set _ _ rfl⟩
  unfold TAt at k ⊢
  rw [heap_setCell_same w O 8 _ _ _ k]
  rfl
set_option maxHeartbeats 3200000 in
set_option maxRecDepth 100000 in
theorem cloneU_any (u : U9) (da : Option Addr) (n c : Nat) (w : World) (k : DOk w u.d da n c) :
    Calls Tryz.prog 10 #[.agg (uC u da n c)] w fun e w' => ∃ db dc, e = .returned (.agg (uC u db n dc)) ∧ w'.ownsRow w.heap.size 5 1 (.slice db n dc) n ((toI u.d).map (Value.int .u8)) ∧ Below w.heap.size w w' := by
  obtain ⟨W, hW⟩ : ∃ W, W = w.alloc (.cells (uC u da n c) 30) := ⟨_, rfl⟩
  obtain ⟨O, hO⟩ : ∃ O, O = w.heap.size := ⟨_, rfl⟩
  have bel : Below w.heap.size w W := by rw [hW]; exact (Below.refl _ _).alloc (Nat.le_refl _) _
  have hr : UAt W O u da n c := by rw [hW, hO]; exact uAt_new _ _ _ _ _
  obtain ⟨W2, hW2⟩ : ∃ W2, W2 = W.alloc (.cells (uC u9z none 0 0) 30) := ⟨_, rfl⟩
  obtain ⟨O2, hO2⟩ : ∃ O2, O2 = W.heap.size := ⟨_, rfl⟩
  have hb2 : Below W.heap.size W W2 := by rw [hW2]; exact (Below.refl _ _).alloc (Nat.le_refl _) _
  have hz2 : UAt W2 O2 u9z none 0 0 := by rw [hW2, hO2]; exact uAt_new _ _ _ _ _
  have bel2 := bthen bel hb2
  have HOO : Hid (O < O2 ∧ w.heap.size ≤ O) := ⟨by rw [hO2]; exact hr.lt, by omega⟩
  have HR : Hid (UAt W2 O u da n c) := hr.below hb2
  have HZ : Hid (UAt W2 O2 u9z none 0 0) := hz2
  obtain ⟨M, hM⟩ : ∃ M, M = uC u da n c := ⟨_, rfl⟩
  have HW : Hid (w.alloc (.cells M 30) = W ∧ w.heap.size = O) := ⟨by rw [hM]; exact hW.symm, hO.symm⟩
  have HW2 : Hid (W.alloc (.cells #[.int .i64 0, .int .i64 0, .bool false, .slice none 0 0] 30) = W2 ∧ W.heap.size = O2) := ⟨hW2.symm, hO2.symm⟩
  have HO2 : Hid (O + 1 = O2) := by show _ = _; rw [hO2, hW, World.size_alloc, hO]
  have QC : Hid _ := copied_any da n c u.d W2 k.dl (k.seg.old bel2) (by have := k.sm; omega)
  have HB2 : Hid (Below w.heap.size w W2) := bel2
  have c3 := HR.out.c3
  rw [← hM]
  clear hW hO hW2 hO2 hr hb2 hz2 bel bel2 hM k
  go_enter Tryz.func10, Tryz.ntmps10
  go_upto_region 1 with fail
  rw [HW.out.1, HW.out.2, HO2.out, HW2.out.1]
  clear HW HW2 HO2
  go_wp2_with fail
  refine Calls.mono QC.out ?_
  rintro e w3 ⟨v, rfl, ho3, hb3⟩
  obtain ⟨db, dc, rfl⟩ := owns_shape ho3
  have HR3 : Hid (UAt w3 O u da n c) := HR.out.below hb3
  obtain ⟨h4, k4⟩ := uAt_set3 HR3.out db n dc
  have h3 := HR3.out.c3
  have f3 := HR3.out.fz 3
  have HZ4 : Hid (UAt (w3.setCell ⟨O, 3, none⟩ (.slice db n dc)) O2 u9z none 0 0) := (HZ.out.below hb3).ch k4 (fun q => by have e' : O2 = O := q; have := HOO.out.1; omega)
  have HO4 : Hid ((w3.setCell ⟨O, 3, none⟩ (.slice db n dc)).ownsRow w.heap.size 5 1 (.slice db n dc) n ((toI u.d).map (Value.int .u8))) := k4.owns (owns_le ho3 HB2.out.size) (fun g hg q => by
    have h1 := (ho3.lt g hg).1
    have h2 := HR.out.lt
    have e' : g = O := q
    omega)
  have HB4 : Hid (Below w.heap.size w (w3.setCell ⟨O, 3, none⟩ (.slice db n dc))) := (bthen HB2.out hb3).trans (k4.below (fun x q => by have e' : x = O := q; have := HOO.out.2; omega) (bthen HB2.out hb3).size)
  obtain ⟨w4, hw4⟩ : ∃ w4, w4 = w3.setCell ⟨O, 3, none⟩ (.slice db n dc) := ⟨_, rfl⟩
  rw [← hw4] at h4 HZ4 HO4 HB4
  have HW4 : Hid (w3.setCell ⟨O, 3, none⟩ (.slice db n dc) = w4) := hw4.symm
  have HR4 : Hid (UAt w4 O u db n dc) := h4
  clear h4 k4 hw4 ho3 hb3 HR HZ QC c3 HR3
  go_upto_region 2 with fail
  rw [HW4.out]
  clear HW4 h3 f3
  go_wp2_with (first | (refine wpList_load_u9 (.tmp 1) rfl O u db n dc rfl HR4.out rfl ?_) | (refine wpList_store_u9 (.tmp 2) (.tmp 7) rfl rfl O2 u9z none 0 0 u db n dc rfl rfl HZ4.out rfl ?_))
  intro wE hRE kE
  have HRE : Hid (UAt wE O2 u db n dc) := hRE
  have HOE : Hid (wE.ownsRow w.heap.size 5 1 (.slice db n dc) n ((toI u.d).map (Value.int .u8))) := kE.owns HO4.out (fun g hg q => by
    have e' : g = O2 := q
    subst e'
    obtain ⟨cc, hcc⟩ := kindN HO4.out g hg
    have := HZ4.out
    unfold UAt at this
    rw [this] at hcc
    simp at hcc)
  have HBE : Hid (Below w.heap.size w wE) := HB4.out.trans (kE.below (fun x q => by have e' : x = O2 := q; have := HOO.out; omega) HB4.out.size)
  clear hRE kE
  go_wp2
  (try simp only [Exit.inBlock, Exit.then])
  refine bodyPost_ret (v := .agg (uC u db n dc)) ?_ rfl ?_
  · exact results_cell_row rfl _ _ O2 30 _ _ _ rfl HRE.out Tryz.underlying30 rfl Tryz.sizeU9
  exact ⟨db, dc, rfl, HOE.out, HBE.out⟩
set_option maxHeartbeats 3200000 in
set_option maxRecDepth 100000 in
theorem cloneT_full (t : T9) (la : Option Addr) (ln lc : Nat) (os : List OpV) (da : Option Addr) (n c : Nat) (w : World) (hl : os.length = ln) (ho : OptsAt w la os) (hln : ln ≤ 1048576) (hsm : ∀ o ∈ os, o.d.length ≤ 1048576) (k : DOk w t.d da n c) :
    Calls Tryz.prog 11 #[.agg (tC t la ln lc da n c)] w fun e w' => ∃ lb mc db dc ps, e = .returned (.agg (tC t lb ln mc db n dc)) ∧ w'.ownsRow w.heap.size 5 1 (.slice db n dc) n ((toI t.d).map (Value.int .u8)) ∧ Below w.heap.size w w' ∧ ps.length = ln ∧ vals ps = vals os ∧ OptsAt w' lb ps ∧ (∀ z, lb = some z → w.heap.size ≤ z.block ∧ z.block < w'.heap.size) ∧ (∀ p ∈ ps, ∀ z, p.a = some z → w.heap.size ≤ z.block ∧ z.block < w'.heap.size) ∧ (∀ p ∈ ps, w'.ownsRow w.heap.size 5 1 (.slice p.a p.d.length p.c) p.d.length ((toI p.d).map (Value.int .u8))) ∧ ps.Pairwise (fun a b => ∀ z y, a.a = some z → b.a = some y → z.block ≠ y.block) ∧ (∀ z, lb = some z → ∀ p ∈ ps, ∀ y, p.a = some y → z.block ≠ y.block) ∧ (∀ z, db = some z → ∀ p ∈ ps, ∀ y, p.a = some y → z.block ≠ y.block) := by
  obtain ⟨W, hW⟩ : ∃ W, W = w.alloc (.cells (tC t la ln lc da n c) 33) := ⟨_, rfl⟩
  obtain ⟨O, hO⟩ : ∃ O, O = w.heap.size := ⟨_, rfl⟩
  have bel : Below w.heap.size w W := by rw [hW]; exact (Below.refl _ _).alloc (Nat.le_refl _) _
  have hr : TAt W O t la ln lc da n c := by rw [hW, hO]; exact tAt_new _ _ _ _ _ _ _ _
  obtain ⟨W2, hW2⟩ : ∃ W2, W2 = W.alloc (.cells (tC t9z none 0 0 none 0 0) 33) := ⟨_, rfl⟩
  obtain ⟨O2, hO2⟩ : ∃ O2, O2 = W.heap.size := ⟨_, rfl⟩
  have hb2 : Below W.heap.size W W2 := by rw [hW2]; exact (Below.refl _ _).alloc (Nat.le_refl _) _
  have hz2 : TAt W2 O2 t9z none 0 0 none 0 0 := by rw [hW2, hO2]; exact tAt_new _ _ _ _ _ _ _ _
  have bel2 := bthen bel hb2
  have HOO : Hid (O < O2 ∧ w.heap.size ≤ O) := ⟨by rw [hO2]; exact hr.lt, by omega⟩
  have HR : Hid (TAt W2 O t la ln lc da n c) := hr.below hb2
  have HZ : Hid (TAt W2 O2 t9z none 0 0 none 0 0) := hz2
  obtain ⟨M, hM⟩ : ∃ M, M = tC t la ln lc da n c := ⟨_, rfl⟩
  have HW : Hid (w.alloc (.cells M 33) = W ∧ w.heap.size = O) := ⟨by rw [hM]; exact hW.symm, hO.symm⟩
  have HW2 : Hid (W.alloc (.cells #[.int .i64 0, .int .i64 0, .int .i64 0, .int .i64 0, .int .i64 0, .int .i64 0, .int .i64 0, .slice none 0 0, .slice none 0 0] 33) = W2 ∧ W.heap.size = O2) := ⟨hW2.symm, hO2.symm⟩
  have HO2 : Hid (O + 1 = O2) := by show _ = _; rw [hO2, hW, World.size_alloc, hO]
  have QO : Hid _ := cloneOpts_any la ln lc os W2 hl (ho.old bel2) hln hsm
  have QC : Hid (∀ A, Below w.heap.size w A → _) := fun A hA => copied_any da n c t.d A k.dl (k.seg.old hA) (by have := k.sm; omega)
  have HB2 : Hid (Below w.heap.size w W2) := bel2
  have c7 := HR.out.c7
  rw [← hM]
  clear hW hO hW2 hO2 hr hb2 hz2 bel bel2 hM k hl ho hsm
  go_enter Tryz.func11, Tryz.ntmps11
  go_upto_region 1 with fail
  rw [HW.out.1, HW.out.2, HO2.out, HW2.out.1]
  clear HW HW2 HO2
  go_wp2_with fail
  refine Calls.mono QO.out ?_
  rintro e w3 ⟨lb, mc, rfl, hb3, ps, hpl, hpv, hpo, hco⟩
  have HP3 : Hid (CoS W2 os (.slice lb ln mc) ln ps w3 ∧ ps.length = ln ∧ vals ps = vals os ∧ OptsAt w3 lb ps) := ⟨hco, hpl, hpv, hpo⟩
  have HLB : Hid ((∀ z, lb = some z → W2.heap.size ≤ z.block) ∧ (∀ p ∈ ps, ∀ z, p.a = some z → W2.heap.size ≤ z.block)) := by
    refine ⟨fun z hz => (hco.own.lt z.block (by rw [hz]; rfl)).1, fun p hp z hz => ((hco.rows p hp).lt z.block (by rw [hz]; rfl)).1⟩
  have HLU : Hid ((∀ z, lb = some z → z.block < w3.heap.size) ∧ (∀ p ∈ ps, ∀ z, p.a = some z → z.block < w3.heap.size)) := by
    refine ⟨fun z hz => (hco.own.lt z.block (by rw [hz]; rfl)).2, fun p hp z hz => ((hco.rows p hp).lt z.block (by rw [hz]; rfl)).2⟩
  have HR3 : Hid (TAt w3 O t la ln lc da n c) := HR.out.below hb3
  have HDIS : Hid (ps.Pairwise (fun a b => ∀ z y, a.a = some z → b.a = some y → z.block ≠ y.block)) := hco.dis
  have HFAR : Hid (∀ z, lb = some z → ∀ p ∈ ps, ∀ y, p.a = some y → z.block ≠ y.block) := fun z hz p hp y hy e => by
    have hne : 5 ≠ 76 := by decide
    rcases apartN (hco.rows p hp) hco.own hne with h | h
    · rw [hy] at h; cases h
    · apply h; rw [hz, hy]; show some y.block = some z.block; rw [e]
  obtain ⟨h4, k4⟩ := tAt_set7 HR3.out lb ln mc
  have h7 := HR3.out.c7
  have f7 := HR3.out.fz 7
  have hOW : O < W2.heap.size := HR.out.lt
  have HZ4 : Hid (TAt (w3.setCell ⟨O, 7, none⟩ (.slice lb ln mc)) O2 t9z none 0 0 none 0 0) := (HZ.out.below hb3).ch k4 (fun q => by have e' : O2 = O := q; have := HOO.out.1; omega)
  have HP4 : Hid (OptsAt (w3.setCell ⟨O, 7, none⟩ (.slice lb ln mc)) lb ps) := hpo.ch k4 (fun z hz q => by have e' : z.block = O := q; have := HLB.out.1 z hz; omega) (fun p hp z hz q => by have e' : z.block = O := q; have := HLB.out.2 p hp z hz; omega)
  have HRW4 : Hid (∀ p ∈ ps, (w3.setCell ⟨O, 7, none⟩ (.slice lb ln mc)).ownsRow w.heap.size 5 1 (.slice p.a p.d.length p.c) p.d.length ((toI p.d).map (Value.int .u8))) := fun p hp => k4.owns (owns_le (hco.rows p hp) HB2.out.size) (fun g hg q => by
    have h1 := ((hco.rows p hp).lt g hg).1
    have e' : g = O := q
    omega)
  have HB4 : Hid (Below w.heap.size w (w3.setCell ⟨O, 7, none⟩ (.slice lb ln mc))) := (bthen HB2.out hb3).trans (k4.below (fun x q => by have e' : x = O := q; have := HOO.out.2; omega) (bthen HB2.out hb3).size)
  obtain ⟨w4, hw4⟩ : ∃ w4, w4 = w3.setCell ⟨O, 7, none⟩ (.slice lb ln mc) := ⟨_, rfl⟩
  have HSa : Hid (w3.heap.size ≤ (w3.setCell ⟨O, 7, none⟩ (.slice lb ln mc)).heap.size) := k4.size
  rw [← hw4] at h4 HZ4 HP4 HB4 HSa HRW4
  have HW4 : Hid (w3.setCell ⟨O, 7, none⟩ (.slice lb ln mc) = w4) := hw4.symm
  have HR4 : Hid (TAt w4 O t lb ln mc da n c) := h4
  have HVV : Hid (ps.length = ln ∧ vals ps = vals os) := ⟨hpl, hpv⟩
  have HSW : Hid (w.heap.size ≤ W2.heap.size ∧ O2 < W2.heap.size) := ⟨HB2.out.size, HZ.out.lt⟩
  have c8 := HR4.out.c8
  clear h4 k4 hw4 hb3 HR HZ QO c7 HR3 HP3 hpl hpv hpo hco
  go_upto_region 2 with fail
  rw [HW4.out]
  clear HW4 h7 f7
  go_wp2_with fail
  refine Calls.mono (QC.out w4 HB4.out) ?_
  rintro e w5 ⟨v, rfl, ho5, hb5⟩
  obtain ⟨db, dc, rfl⟩ := owns_shape ho5
  have HR5 : Hid (TAt w5 O t lb ln mc da n c) := HR4.out.below hb5
  have HSb : Hid (w4.heap.size ≤ w5.heap.size) := hb5.size
  obtain ⟨h6, k6⟩ := tAt_set8 HR5.out db n dc
  have h8 := HR5.out.c8
  have f8 := HR5.out.fz 8
  have hO4 : O < w4.heap.size := HR4.out.lt
  have HZ6 : Hid (TAt (w5.setCell ⟨O, 8, none⟩ (.slice db n dc)) O2 t9z none 0 0 none 0 0) := (HZ4.out.below hb5).ch k6 (fun q => by have e' : O2 = O := q; have := HOO.out.1; omega)
  have HP6 : Hid (OptsAt (w5.setCell ⟨O, 8, none⟩ (.slice db n dc)) lb ps) := (HP4.out.old hb5).ch k6 (fun z hz q => by have e' : z.block = O := q; have := HLB.out.1 z hz; omega) (fun p hp z hz q => by have e' : z.block = O := q; have := HLB.out.2 p hp z hz; omega)
  have HO6 : Hid ((w5.setCell ⟨O, 8, none⟩ (.slice db n dc)).ownsRow w.heap.size 5 1 (.slice db n dc) n ((toI t.d).map (Value.int .u8))) := k6.owns (owns_le ho5 HB4.out.size) (fun g hg q => by
    have h1 := (ho5.lt g hg).1
    have e' : g = O := q
    omega)
  have HRW6 : Hid (∀ p ∈ ps, (w5.setCell ⟨O, 8, none⟩ (.slice db n dc)).ownsRow w.heap.size 5 1 (.slice p.a p.d.length p.c) p.d.length ((toI p.d).map (Value.int .u8))) := fun p hp => k6.owns ((Ch.ofBelow (S := fun _ => False) hb5).owns (HRW4.out p hp) (fun _ _ => id)) (fun g hg q => by
    obtain ⟨z, hz, hb⟩ := blk_own hg
    have h1 := HLB.out.2 p hp z hz
    have e' : g = O := q
    omega)
  have HDB : Hid (∀ z, db = some z → ∀ p ∈ ps, ∀ y, p.a = some y → z.block ≠ y.block) := fun z hz p hp y hy e => by
    have h1 := (ho5.lt z.block (by rw [hz]; rfl)).1
    have h2 := HLU.out.2 p hp y hy
    have h3 := HSa.out
    omega
  have HB6 : Hid (Below w.heap.size w (w5.setCell ⟨O, 8, none⟩ (.slice db n dc))) := (bthen HB4.out hb5).trans (k6.below (fun x q => by have e' : x = O := q; have := HOO.out.2; omega) (bthen HB4.out hb5).size)
  obtain ⟨w6, hw6⟩ : ∃ w6, w6 = w5.setCell ⟨O, 8, none⟩ (.slice db n dc) := ⟨_, rfl⟩
  have HSc : Hid (w5.heap.size ≤ (w5.setCell ⟨O, 8, none⟩ (.slice db n dc)).heap.size) := k6.size
  rw [← hw6] at h6 HZ6 HP6 HO6 HB6 HSc HRW6
  have HW6 : Hid (w5.setCell ⟨O, 8, none⟩ (.slice db n dc) = w6) := hw6.symm
  have HR6 : Hid (TAt w6 O t lb ln mc db n dc) := h6
  clear h6 k6 hw6 ho5 hb5 HR4 HZ4 QC c8 HR5 HP4 HB4 hO4
  go_upto_region 3 with fail
  rw [HW6.out]
  clear HW6 h8 f8
  go_wp2_with (first | (refine wpList_load_t9 (.tmp 1) rfl O t lb ln mc db n dc rfl HR6.out rfl ?_) | (refine wpList_store_t9 (.tmp 2) (.tmp 11) rfl rfl O2 t9z none 0 0 none 0 0 t lb ln mc db n dc rfl rfl HZ6.out rfl ?_))
  intro wE hRE kE
  have HRE : Hid (TAt wE O2 t lb ln mc db n dc) := hRE
  have HOE : Hid (wE.ownsRow w.heap.size 5 1 (.slice db n dc) n ((toI t.d).map (Value.int .u8))) := kE.owns HO6.out (fun g hg q => by
    have e' : g = O2 := q
    subst e'
    obtain ⟨cc, hcc⟩ := kindN HO6.out g hg
    have := HZ6.out
    unfold TAt at this
    rw [this] at hcc
    simp at hcc)
  have HRWE : Hid (∀ p ∈ ps, wE.ownsRow w.heap.size 5 1 (.slice p.a p.d.length p.c) p.d.length ((toI p.d).map (Value.int .u8))) := fun p hp => kE.owns (HRW6.out p hp) (fun g hg q => by
    obtain ⟨z, hz, hb⟩ := blk_own hg
    have h1 := HLB.out.2 p hp z hz
    have h2 := HSW.out
    have e' : g = O2 := q
    omega)
  have HPE : Hid (OptsAt wE lb ps) := HP6.out.ch kE (fun z hz q => by have e' : z.block = O2 := q; have := HLB.out.1 z hz; have := HSW.out; omega) (fun p hp z hz q => by have e' : z.block = O2 := q; have := HLB.out.2 p hp z hz; have := HSW.out; omega)
  have HBE : Hid (Below w.heap.size w wE) := HB6.out.trans (kE.below (fun x q => by have e' : x = O2 := q; have := HOO.out; omega) HB6.out.size)
  have HSZ : Hid (w3.heap.size ≤ wE.heap.size) := by have h1 := HSa.out; have h2 := HSb.out; have h3 := HSc.out; have h4 := kE.size; show _ ≤ _; omega
  clear hRE kE
  go_wp2
  (try simp only [Exit.inBlock, Exit.then])
  refine bodyPost_ret (v := .agg (tC t lb ln mc db n dc)) ?_ rfl ?_
  · exact results_cell_row rfl _ _ O2 33 _ _ _ rfl HRE.out Tryz.underlying33 rfl Tryz.sizeT9
  exact ⟨lb, mc, db, dc, ps, rfl, HOE.out, HBE.out, HVV.out.1, HVV.out.2, HPE.out, fun z hz => ⟨Nat.le_trans HSW.out.1 (HLB.out.1 z hz), Nat.lt_of_lt_of_le (HLU.out.1 z hz) HSZ.out⟩, fun p hp z hz => ⟨Nat.le_trans HSW.out.1 (HLB.out.2 p hp z hz), Nat.lt_of_lt_of_le (HLU.out.2 p hp z hz) HSZ.out⟩, HRWE.out, HDIS.out, HFAR.out, HDB.out⟩
theorem cloneT_any (t : T9) (la : Option Addr) (ln lc : Nat) (os : List OpV) (da : Option Addr) (n c : Nat) (w : World) (hl : os.length = ln) (ho : OptsAt w la os) (hln : ln ≤ 1048576) (hsm : ∀ o ∈ os, o.d.length ≤ 1048576) (k : DOk w t.d da n c) :
    Calls Tryz.prog 11 #[.agg (tC t la ln lc da n c)] w fun e w' => ∃ lb mc db dc ps, e = .returned (.agg (tC t lb ln mc db n dc)) ∧ w'.ownsRow w.heap.size 5 1 (.slice db n dc) n ((toI t.d).map (Value.int .u8)) ∧ Below w.heap.size w w' ∧ ps.length = ln ∧ vals ps = vals os ∧ OptsAt w' lb ps ∧ (∀ z, lb = some z → w.heap.size ≤ z.block ∧ z.block < w'.heap.size) ∧ (∀ p ∈ ps, ∀ z, p.a = some z → w.heap.size ≤ z.block ∧ z.block < w'.heap.size) := by
  refine Calls.mono (cloneT_full t la ln lc os da n c w hl ho hln hsm k) ?_
  rintro e w' ⟨lb, mc, db, dc, ps, h1, h2, h3, h4, h5, h6, h7, h8, _⟩
  exact ⟨lb, mc, db, dc, ps, h1, h2, h3, h4, h5, h6, h7, h8⟩
end Go.Proofs.YtfoeepbndfnifaaGreatDoor
