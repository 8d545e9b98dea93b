/-
  The reference's version of an address.
-/
/-
  The document's Pseudo.
-/
/-
  ParseUdp, ParseTcp, PutUdp, PutTcp in one form for what is taken and what is not; and of values that may be: written, and what was written read.
-/
/-
  Clamp in numbers: what the greatest segment is behind it; twice is once; whether it may be is not another. No program here.
-/
/-
  Copied; CloneOpts (as in I4Clone); CloneUdp, CloneTcp.
-/
/-
  Bytes with three marks behind them, whether they still stand; appends to full windows; bytes turned over.
-/
/-
  What is written, in one form for taken and refused; rows as lists of bytes; Clamp's options.
-/
import Derived.Test.YtfoeepbndfnifaaDoorI8Ps2
import Derived.Test.YtfoeepbndfnifaaDoorI8Ps3
import Derived.Test.YtfoeepbndfnifaaDoorL9St1
import Derived.Test.YtfoeepbndfnifaaDoorL9Spec
import Derived.Test.YtfoeepbndfnifaaDoorL9Cl
import Derived.Test.YtfoeepbndfnifaaDoorL9Har
import Derived.Deep.Onto
namespace Go.Proofs.YtfoeepbndfnifaaDoor
open Go.RowKit
set_option maxHeartbeats 1600000 in
set_option maxRecDepth 100000 in
theorem version_any (V : Int) (x : Nat → Nat) (w : World) :
    Calls Tryd.prog 78 #[.agg (ipCells V x)] w fun e w' => e = .returned (.int .i64 (verOf V x)) ∧ Below w.heap.size w w' := by
  have hbx := boxed_new w V x 24
  have hb1 : Below w.heap.size w (w.alloc (.cells (ipCells V x) 24)) := (Below.refl _ _).alloc (Nat.le_refl _) _
  obtain ⟨CS, hCS⟩ : ∃ CS, CS = ipCells V x := ⟨_, rfl⟩
  rw [← hCS] at hbx hb1 ⊢
  clear hCS
  go_enter Tryd.func78, Tryd.ntmps78
  go_upto_region 1 with fail
  obtain ⟨W, hW⟩ : ∃ W, W = w.alloc (.cells CS 24) := ⟨_, rfl⟩
  rw [← hW] at hbx hb1 ⊢
  clear hW
  obtain ⟨B, hB⟩ : ∃ B, B = w.heap.size := ⟨_, rfl⟩
  rw [← hB] at hbx ⊢
  clear hB
  have hv := hbx.ver
  by_cases h6 : V = 6
  · subst h6
    go_wp2
    go_ret
    exact ⟨ret1 (by simp [verOf]), hb1⟩
  · have h6' : (V == 6) = false := by simpa using h6
    go_wp2
    go_loop [3] (fun ix => ∃ k : Nat, 4 ≤ k ∧ k ≤ 16 ∧ ix = .int .i64 k ∧ Hid (∀ j, 4 ≤ j → j < k → x j = 0)) (fun ix => 16 - (intOf ix).toNat)
    case atStart => exact ⟨4, by omega, by omega, rfl, fun j h1 h2 => by omega⟩
    case round =>
      obtain ⟨k, hk4, hk, rfl, HZ⟩ := hrel
      by_cases hlt : k < 16
      · have hc := hbx.byte k hlt
        obtain ⟨y, hy⟩ : ∃ y, y = x k := ⟨_, rfl⟩
        rw [← hy] at hc
        have HY : Hid (y = x k) := hy
        clear hy
        by_cases hy0 : y = 0
        · subst hy0
          go_wp2
          go_round
          case rel => exact ⟨k + 1, by omega, by omega, by go_num, fun j h1 h2 => by rcases Nat.lt_succ_iff_lt_or_eq.1 h2 with h | rfl; exact HZ.out j h1 h; exact HY.out.symm⟩
          case measure => simp [intOf]; omega
        · have hb : ((y : Int) != 0) = true := by simp; omega
          have HR : Hid (verOf V x = 0) := by
            show _ = _
            have hr : ¬ restZ x = true := fun h => hy0 (by rw [HY.out]; exact (restZ_iff x).1 h k hk4 hlt)
            rw [verOf, if_neg h6, if_neg (fun h => hr h.1)]
          go_wp2
          go_ret
          exact ⟨ret1 (by rw [HR.out]), hb1⟩
      · obtain rfl : k = 16 := by omega
        have hr : restZ x = true := (restZ_iff x).2 HZ.out
        by_cases h4 : V = 4
        · subst h4
          have HR : Hid (verOf 4 x = 4) := by show _ = _; rw [verOf, if_neg (by decide), if_pos ⟨hr, rfl⟩]
          go_wp2
          go_ret
          exact ⟨ret1 (by rw [HR.out]), hb1⟩
        · have h4' : (V == 4) = false := by simpa using h4
          have HR : Hid (verOf V x = 0) := by show _ = _; rw [verOf, if_neg h6, if_neg (fun h => h4 h.2)]
          go_wp2
          go_ret
          exact ⟨ret1 (by rw [HR.out]), hb1⟩
end Go.Proofs.YtfoeepbndfnifaaDoor
namespace Go.Proofs.YtfoeepbndfnifaaDoor
open Go.RowKit

theorem verOf_ok (V U : Int) (x y : Nat → Nat) : psOk V U x y = true ↔ verOf V x ≠ 0 ∧ verOf U y = verOf V x := by
  unfold psOk verOf isAddr
  by_cases h6 : V = 6 <;> by_cases g6 : U = 6 <;> by_cases h4 : V = 4 <;> by_cases g4 : U = 4 <;> cases hx : restZ x <;> cases hy : restZ y <;> simp_all <;> omega
theorem verOf_eq (V : Int) (x : Nat → Nat) (h : verOf V x ≠ 0) : verOf V x = V := by
  unfold verOf at *
  split at h
  · rw [if_pos (by assumption)]; omega
  · rw [if_neg (by assumption)]
    split at h
    · rename_i h1; rw [if_pos h1]; exact h1.2.symm
    · exact absurd rfl h
theorem psIn_no {p n : Int} (h : p < 0 ∨ 255 < p ∨ n < 0 ∨ 65535 < n) : psIn p n = false := by simp [psIn]; omega
theorem psIn_yes {p n : Int} (h1 : 0 ≤ p) (h2 : p ≤ 255) (h3 : 0 ≤ n) (h4 : n ≤ 65535) : psIn p n = true := by simp [psIn]; omega
theorem Boxed.low {w w' : World} {B L : Nat} {V : Int} {x : Nat → Nat} (h : Boxed w B V x) (hb : Below L w w') (hB : B < L) : Boxed w' B V x :=
  ⟨(hb.cell (p := ⟨B, 0, none⟩) hB).trans h.ver, fun i hi => (hb.cell (p := ⟨B, 1 + i, none⟩) hB).trans (h.byte i hi)⟩
theorem owns_base {w : World} {b b' : Nat} {e : TypeId} {v : Value} {n : Nat} {xs : List Value} (h : w.ownsRow b e 1 v n xs) (hb : ∀ g, v.ownBlock = some g → b' ≤ g) : w.ownsRow b' e 1 v n xs := by
  refine ⟨h.1, ?_⟩
  rcases h.2 with h2 | ⟨g, cap, cur, rfl, hg, r⟩
  · exact .inl h2
  · exact .inr ⟨g, cap, cur, rfl, hb g rfl, r⟩
theorem ipL_succ (x : Nat → Nat) (k : Nat) : ipL x (k + 1) = ipL x k ++ [x k] := by simp [ipL, List.range_succ]
set_option maxHeartbeats 3200000 in
set_option maxRecDepth 100000 in
theorem rpseudo_any (V U : Int) (x y : Nat → Nat) (p n : Int) (w : World) :
    Calls Tryd.prog 61 #[.agg (ipCells V x), .agg (ipCells U y), .int .i64 p, .int .i64 n] w fun e w' => ∃ v, e = .returned (.tuple #[v, .int .i64 (psE V U x y p n)]) ∧ OwnB w' w.heap.size v (psL V U x y p n).length (psL V U x y p n) ∧ Below w.heap.size w w' := by
  obtain ⟨i0, hi, hz0, hz1, hz2⟩ := info_parts Tryd.infoByte
  have hx1 := boxed_new w V x 24
  have hy1 := boxed_new (w.alloc (.cells (ipCells V x) 24)) U y 24
  have hb1 : Below w.heap.size w ((w.alloc (.cells (ipCells V x) 24)).alloc (.cells (ipCells U y) 24)) := ((Below.refl _ _).alloc (Nat.le_refl _) _).alloc (by simp) _
  have hx2 := hx1.old ((Below.refl _ _).alloc (Nat.le_refl _) (.cells (ipCells U y) 24))
  clear hx1
  rw [World.size_alloc] at hy1
  obtain ⟨A, hA⟩ : ∃ A, A = ipCells V x := ⟨_, rfl⟩
  obtain ⟨C, hC⟩ : ∃ C, C = ipCells U y := ⟨_, rfl⟩
  rw [← hA] at hx2 hy1 hb1 ⊢
  rw [← hC] at hx2 hy1 hb1 ⊢
  have HA : Hid (A = ipCells V x) := hA
  have HC : Hid (C = ipCells U y) := hC
  clear hA hC
  go_enter Tryd.func61, Tryd.ntmps61
  go_upto_region 1 with fail
  obtain ⟨W, hW⟩ : ∃ W, W = (w.alloc (.cells A 24)).alloc (.cells C 24) := ⟨_, rfl⟩
  rw [← hW] at hx2 hy1 hb1 ⊢
  clear hW
  obtain ⟨B, hB⟩ : ∃ B, B = w.heap.size := ⟨_, rfl⟩
  have HB : Hid (w.heap.size = B) := hB.symm
  rw [← hB] at hx2 hy1 ⊢
  clear hB
  obtain ⟨vx, hvx⟩ : ∃ v, v = verOf V x := ⟨_, rfl⟩
  obtain ⟨vy, hvy⟩ : ∃ v, v = verOf U y := ⟨_, rfl⟩
  have HVX : Hid (verOf V x = vx) := hvx.symm
  have HVY : Hid (verOf U y = vy) := hvy.symm
  clear hvx hvy
  have HOK : Hid (psOk V U x y = true ↔ vx ≠ 0 ∧ vy = vx) := by rw [← HVX.out, ← HVY.out]; exact verOf_ok V U x y
  have HEQ : Hid (vx ≠ 0 → vx = V) := fun h => by rw [← HVX.out] at *; exact verOf_eq V x h
  go_cut [10] (fun s10 wx => s10 = .int .i64 vx ∧ Boxed wx B V x ∧ Boxed wx (B + 1) U y ∧ Below w.heap.size w wx)
  case first =>
    go_wp2_with (first | (refine wpList_load_ip (.tmp 4) rfl B V x rfl hx2 rfl ?_))
    refine (version_any V x _).mono ?_
    rintro e w1 ⟨rfl, hb2⟩
    rw [HVX.out]
    have hx3 := hx2.old hb2
    have hy3 := hy1.old hb2
    have hb02 := hb1.trans (hb2.mono hb1.size)
    go_wp2
    go_meet
    exact ⟨rfl, hx3, hy3, hb02⟩
  case rest =>
  obtain ⟨rfl, hx3, hy3, hb02⟩ := hcut
  obtain ⟨w1, hw1⟩ : ∃ w1, w1 = wc := ⟨_, rfl⟩
  rw [← hw1] at hx3 hy3 hb02 ⊢
  clear hw1 hx2 hy1 hb1
  go_upto_region 2 with fail
  go_cut [23] (fun s23 wx => s23 = .bool (!psOk V U x y) ∧ Boxed wx B V x ∧ Boxed wx (B + 1) U y ∧ Below w.heap.size w wx)
  case first =>
    by_cases hz : vx = 0
    · have hzz : (vx == 0) = true := by simp [hz]
      have hps : psOk V U x y = false := by cases h : psOk V U x y; rfl; exact absurd hz (HOK.out.1 h).1
      go_wp2
      go_meet
      exact ⟨by rw [hps]; rfl, hx3, hy3, hb02⟩
    · have hzz : (vx == 0) = false := by simpa using hz
      go_wp2_with (first | (refine wpList_load_ip (.tmp 5) rfl (B + 1) U y rfl hy3 rfl ?_))
      refine (version_any U y _).mono ?_
      rintro e w2 ⟨rfl, hb3⟩
      rw [HVY.out]
      have hx4 := hx3.old hb3
      have hy4 := hy3.old hb3
      have hb03 := hb02.trans (hb3.mono hb02.size)
      by_cases hxy : vy = vx
      · subst hxy
        have hne : (vy != vy) = false := by simp
        have hps : psOk V U x y = true := HOK.out.2 ⟨hz, rfl⟩
        go_wp2
        go_meet
        exact ⟨by rw [hps]; rfl, hx4, hy4, hb03⟩
      · have hne : (vy != vx) = true := by simpa using hxy
        have hps : psOk V U x y = false := by cases h : psOk V U x y; rfl; exact absurd (HOK.out.1 h).2 hxy
        go_wp2
        go_meet
        exact ⟨by rw [hps]; rfl, hx4, hy4, hb03⟩
  case rest =>
  obtain ⟨rfl, hx4, hy4, hb3⟩ := hcut
  clear hx3 hy3 hb02
  cases hps : psOk V U x y with
  | false =>
    go_wp2
    go_ret2
    have e1 : psL V U x y p n = [] := by simp [psL, hps]
    rw [e1]
    exact ⟨_, ps_ret (by simp [psE, hps]), World.ownsRow_nil _ _ _ _, hb3⟩
  | true =>
  obtain rfl : vx = V := HEQ.out (HOK.out.1 hps).1
  go_upto_region 4 with fail
  go_cut [37] (fun s wx => s = .bool (!psIn p n) ∧ wx = wc)
  case first =>
    by_cases hp0 : p < 0
    · go_wp2
      go_meet
      exact ⟨by rw [psIn_no (.inl hp0)]; rfl, rfl⟩
    · by_cases hp1 : 255 < p
      · go_wp2
        go_meet
        exact ⟨by rw [psIn_no (.inr (.inl hp1))]; rfl, rfl⟩
      · by_cases hn0 : n < 0
        · go_wp2
          go_meet
          exact ⟨by rw [psIn_no (.inr (.inr (.inl hn0)))]; rfl, rfl⟩
        · by_cases hn1 : 65535 < n
          · go_wp2
            go_meet
            exact ⟨by rw [psIn_no (.inr (.inr (.inr hn1)))]; rfl, rfl⟩
          · go_wp2
            go_meet
            exact ⟨by rw [psIn_yes hp0 hp1 hn0 hn1]; rfl, rfl⟩
  case rest =>
  obtain ⟨rfl, rfl⟩ := hcut
  cases hpi : psIn p n with
  | false =>
    go_wp2
    go_ret2
    have e1 : psL vx U x y p n = [] := by simp [psL, hpi]
    rw [e1]
    exact ⟨_, ps_ret (by simp [psE, hps, hpi]), World.ownsRow_nil _ _ _ _, hb3⟩
  | true =>
    have hr : 0 ≤ p ∧ p ≤ 255 ∧ 0 ≤ n ∧ n ≤ 65535 := by simpa [psIn] using hpi
    have HE : Hid (psE vx U x y p n = 0) := by show _ = _; simp [psE, hps, hpi]
    obtain ⟨P, rfl⟩ : ∃ P : Nat, p = P := ⟨p.toNat, by omega⟩
    obtain ⟨N, rfl⟩ : ∃ N : Nat, n = N := ⟨n.toNat, by omega⟩
    have hP : P ≤ 255 := by omega
    have hN : N ≤ 65535 := by omega
    have hh : IntKind.u8.wrap ((N : Int) / 256) = ((N / 256 : Nat) : Int) := u8_hi N hN
    have hl : IntKind.u8.wrap ((N : Int) % 256) = ((N % 256 : Nat) : Int) := by
      have e : ((N : Int) % 256) = ((N % 256 : Nat) : Int) := by omega
      rw [e, u8_lo]; omega
    have hk : IntKind.u8.wrap (P : Int) = (P : Int) := by rw [u8_lo]; omega
    obtain ⟨h, hhe⟩ : ∃ h, h = N / 256 := ⟨_, rfl⟩
    obtain ⟨l, hle⟩ : ∃ l, l = N % 256 := ⟨_, rfl⟩
    rw [← hhe] at hh
    rw [← hle] at hl
    have HHL : Hid (h = N / 256 ∧ l = N % 256) := ⟨hhe, hle⟩
    clear hhe hle hr
    by_cases h4 : vx = 4
    · have HL : Hid (psL vx U x y P N = [x 0, x 1, x 2, x 3, y 0, y 1, y 2, y 3] ++ [0, P, h, l]) := by
        show _ = _
        rw [psL, hps, hpi, h4, HHL.out.1, HHL.out.2]
        simp [ipL, List.range_succ]
      subst h4
      clear hpi hps
      have x0 := hx4.byte 0 (by decide)
      have x1 := hx4.byte 1 (by decide)
      have x2 := hx4.byte 2 (by decide)
      have x3 := hx4.byte 3 (by decide)
      have y0 := hy4.byte 0 (by decide)
      have y1 := hy4.byte 1 (by decide)
      have y2 := hy4.byte 2 (by decide)
      have y3 := hy4.byte 3 (by decide)
      have hnil := World.ownsRow_nil wc w.heap.size 5 1
      go_wp2_with (first | (at_builtin; refine wpList_append_own _ rfl (.tmp 40) (.tmp 65) 25 rfl w.heap.size 5 i0 (.int .u8 0) 1 1 Tryd.underlying25 hi hz0 hz1 hz2 rfl (by decide) _ _ _ rfl (hnil.alloc _) ⟨wc.heap.size, 0, none⟩ 8 8 [.int .u8 (x 0 : Nat), .int .u8 (x 1 : Nat), .int .u8 (x 2 : Nat), .int .u8 (x 3 : Nat), .int .u8 (y 0 : Nat), .int .u8 (y 1 : Nat), .int .u8 (y 2 : Nat), .int .u8 (y 3 : Nat)] rfl rfl (news_new _ _ _) (by intro u hu; simp only [List.mem_cons, List.not_mem_nil, or_false] at hu; rcases hu with rfl | rfl | rfl | rfl | rfl | rfl | rfl | rfl <;> rfl) (by unfold maxLen; omega) (by omega) (by have := hb3.size; simp; omega) ?_))
      intro v2 w2 ho2' hg2 _
      have ho2 : OwnB w2 w.heap.size v2 8 [x 0, x 1, x 2, x 3, y 0, y 1, y 2, y 3] := by simpa [OwnB, toI] using ho2'
      have hb5 : Below w.heap.size w w2 := (hb3.alloc hb3.size _).grown hg2 (by have := hb3.size; simp; omega) (by intro k hk; simp [Value.ownBlock] at hk)
      obtain ⟨a2, c2, rfl⟩ := owns_shape ho2
      clear ho2' hg2 x0 x1 x2 x3 y0 y1 y2 y3 hnil
      go_wp2_with (first | (at_builtin; refine wpList_append_own _ rfl (.tmp 67) (.tmp 76) 25 rfl w.heap.size 5 i0 (.int .u8 0) 1 1 Tryd.underlying25 hi hz0 hz1 hz2 rfl (by decide) _ _ _ rfl (ho2.alloc _) ⟨w2.heap.size, 0, none⟩ 4 4 [.int .u8 0, .int .u8 (P : Int), .int .u8 (h : Int), .int .u8 (l : Int)] rfl rfl (news_new _ _ _) (by intro u hu; simp only [List.mem_cons, List.not_mem_nil, or_false] at hu; rcases hu with rfl | rfl | rfl | rfl <;> rfl) (by unfold maxLen; omega) (by omega) (by have := hb5.size; simp; omega) ?_))
      intro v3 w3 ho3' hg3 _
      have ho3 : OwnB w3 w.heap.size v3 12 ([x 0, x 1, x 2, x 3, y 0, y 1, y 2, y 3] ++ [0, P, h, l]) := by simpa [OwnB, toI] using ho3'
      have hb6 : Below w.heap.size w w3 := (hb5.alloc hb5.size _).grown hg3 (by have := hb5.size; simp; omega) (fun j hj => (ho2.lt j hj).1)
      obtain ⟨a3, c3, rfl⟩ := owns_shape ho3
      clear ho3' hg3
      go_wp2
      go_ret2
      rw [HL.out]
      exact ⟨_, ps_ret (by rw [HE.out]), ho3, hb6⟩
    · have h4' : (vx == 4) = false := by simpa using h4
      have HL : Hid (psL vx U x y P N = ipL x 16 ++ ipL y 16 ++ [0, 0, h, l, 0, 0, 0, P]) := by
        show _ = _
        rw [psL, hps, hpi, if_neg h4, HHL.out.1, HHL.out.2]
        simp
      have HBB : Hid (B < wc.heap.size ∧ B + 1 < wc.heap.size) := ⟨World.block_lt_of_cell? wc _ hx4.ver, World.block_lt_of_cell? wc _ hy4.ver⟩
      clear hpi hps
      go_wp2
      go_loopw [11, 12] (fun v ix wr => ∃ k : Nat, k ≤ 16 ∧ ix = .int .i64 k ∧ OwnB wr w.heap.size v k (ipL x k) ∧ Hid (∀ g, v.ownBlock = some g → wc.heap.size ≤ g) ∧ Boxed wr B vx x ∧ Boxed wr (B + 1) U y ∧ Below w.heap.size w wr ∧ wc.heap.size ≤ wr.heap.size) (fun _ ix _ => 16 - (intOf ix).toNat)
      case atStart => exact ⟨0, by omega, rfl, by simpa [ipL, OwnB, toI] using World.ownsRow_nil wc w.heap.size 5 1, (fun g hg => by simp [Value.ownBlock] at hg), hx4, hy4, hb3, Nat.le_refl _⟩
      case round =>
        obtain ⟨k, hk, rfl, hor, HOW, hxr, hyr, hbr, hsz⟩ := hrel
        by_cases hlt : k < 16
        · have hc := hxr.byte k hlt
          have hst : (toI (ipL x (k + 1))).map (Value.int .u8) = (toI (ipL x k)).map (Value.int .u8) ++ [.int .u8 (x k : Nat)] := by rw [ipL_succ x k]; simp [toI]
          obtain ⟨q, hq⟩ : ∃ q, q = x k := ⟨_, rfl⟩
          rw [← hq] at hc hst
          have HST : Hid _ := hst
          have hor2 := owns_base hor HOW.out
          clear hst hq
          go_wp2_with (first | (at_builtin; refine wpList_append_own _ rfl (.tmp 82) (.tmp 87) 25 rfl wc.heap.size 5 i0 (.int .u8 0) 1 1 Tryd.underlying25 hi hz0 hz1 hz2 rfl (by decide) _ _ _ rfl (hor2.alloc _) ⟨wr.heap.size, 0, none⟩ 1 1 [.int .u8 (q : Nat)] rfl rfl (news_new _ _ _) (by intro u hu; simp only [List.mem_cons, List.not_mem_nil, or_false] at hu; subst hu; rfl) (by unfold maxLen; omega) (by omega) (by simp; omega) ?_))
          intro v1 w1 ho1 hg1 _
          have hb4 : Below w.heap.size w w1 := (hbr.alloc hbr.size _).grown hg1 (by have := hbr.size; simp; omega) (fun j hj => (hor.lt j hj).1)
          have hbx : Below wc.heap.size wr w1 := ((Below.refl _ _).alloc hsz _).grown hg1 (by simp; omega) (fun j hj => HOW.out j hj)
          rw [← HST.out] at ho1
          have hx5 := hxr.low hbx HBB.out.1
          have hy5 := hyr.low hbx HBB.out.2
          have hs5 := hg1.size
          have ho5 : OwnB w1 w.heap.size v1 (k + 1) (ipL x (k + 1)) := owns_mono ho1 hb3.size
          have HOW5 : Hid (∀ g, v1.ownBlock = some g → wc.heap.size ≤ g) := fun g hg => (ho1.lt g hg).1
          clear hg1 hor hor2 hxr hyr hbr ho1
          go_wp2
          go_roundw
          case rel => exact ⟨k + 1, by omega, by go_num, ho5, HOW5, hx5, hy5, hb4, by simp at hs5; omega⟩
          case measure => simp [intOf]; omega
        · have ek : k = 16 := by omega
          rw [ek] at hor
          clear ek
          go_wp2
          go_loopw [11, 13] (fun v ix wr => ∃ k : Nat, k ≤ 16 ∧ ix = .int .i64 k ∧ OwnB wr w.heap.size v (16 + k) (ipL x 16 ++ ipL y k) ∧ Hid (∀ g, v.ownBlock = some g → wc.heap.size ≤ g) ∧ Boxed wr B vx x ∧ Boxed wr (B + 1) U y ∧ Below w.heap.size w wr ∧ wc.heap.size ≤ wr.heap.size) (fun _ ix _ => 16 - (intOf ix).toNat)
          case atStart => exact ⟨0, by omega, rfl, by simpa [ipL, OwnB, toI] using hor, HOW, hxr, hyr, hbr, hsz⟩
          case round =>
            obtain ⟨k, hk, rfl, hor, HOW, hxr, hyr, hbr, hsz⟩ := hrel
            by_cases hlt : k < 16
            · have hc := hyr.byte k hlt
              have hst : (toI (ipL x 16 ++ ipL y (k + 1))).map (Value.int .u8) = (toI (ipL x 16 ++ ipL y k)).map (Value.int .u8) ++ [.int .u8 (y k : Nat)] := by rw [ipL_succ y k]; simp [toI]
              obtain ⟨q, hq⟩ : ∃ q, q = y k := ⟨_, rfl⟩
              rw [← hq] at hc hst
              have HST : Hid _ := hst
              have hor2 := owns_base hor HOW.out
              clear hst hq
              go_wp2_with (first | (at_builtin; refine wpList_append_own _ rfl (.tmp 93) (.tmp 98) 25 rfl wc.heap.size 5 i0 (.int .u8 0) 1 1 Tryd.underlying25 hi hz0 hz1 hz2 rfl (by decide) _ _ _ rfl (hor2.alloc _) ⟨wr.heap.size, 0, none⟩ 1 1 [.int .u8 (q : Nat)] rfl rfl (news_new _ _ _) (by intro u hu; simp only [List.mem_cons, List.not_mem_nil, or_false] at hu; subst hu; rfl) (by unfold maxLen; omega) (by omega) (by simp; omega) ?_))
              intro v1 w1 ho1 hg1 _
              have hb4 : Below w.heap.size w w1 := (hbr.alloc hbr.size _).grown hg1 (by have := hbr.size; simp; omega) (fun j hj => (hor.lt j hj).1)
              have hbx : Below wc.heap.size wr w1 := ((Below.refl _ _).alloc hsz _).grown hg1 (by simp; omega) (fun j hj => HOW.out j hj)
              rw [← HST.out] at ho1
              have hx5 := hxr.low hbx HBB.out.1
              have hy5 := hyr.low hbx HBB.out.2
              have hs5 := hg1.size
              have ho5 : OwnB w1 w.heap.size v1 (16 + (k + 1)) (ipL x 16 ++ ipL y (k + 1)) := owns_mono ho1 hb3.size
              have HOW5 : Hid (∀ g, v1.ownBlock = some g → wc.heap.size ≤ g) := fun g hg => (ho1.lt g hg).1
              clear hg1 hor hor2 hxr hyr hbr ho1
              go_wp2
              go_roundw
              case rel => exact ⟨k + 1, by omega, by go_num, ho5, HOW5, hx5, hy5, hb4, by simp at hs5; omega⟩
              case measure => simp [intOf]; omega
            · obtain rfl : k = 16 := by omega
              have ho2 := hor
              go_wp2_with (first | (at_builtin; refine wpList_append_own _ rfl (.tmp 100) (.tmp 109) 25 rfl w.heap.size 5 i0 (.int .u8 0) 1 1 Tryd.underlying25 hi hz0 hz1 hz2 rfl (by decide) _ _ _ rfl (ho2.alloc _) ⟨wr.heap.size, 0, none⟩ 8 8 [.int .u8 0, .int .u8 0, .int .u8 (h : Int), .int .u8 (l : Int), .int .u8 0, .int .u8 0, .int .u8 0, .int .u8 (P : Int)] rfl rfl (news_new _ _ _) (by intro u hu; simp only [List.mem_cons, List.not_mem_nil, or_false] at hu; rcases hu with rfl | rfl | rfl | rfl | rfl | rfl | rfl | rfl <;> rfl) (by unfold maxLen; omega) (by omega) (by have := hbr.size; simp; omega) ?_))
              intro v3 w3 ho3' hg3 _
              have ho3 : OwnB w3 w.heap.size v3 40 (ipL x 16 ++ ipL y 16 ++ [0, 0, h, l, 0, 0, 0, P]) := by simpa [OwnB, toI] using ho3'
              have hb6 : Below w.heap.size w w3 := (hbr.alloc hbr.size _).grown hg3 (by have := hbr.size; simp; omega) (fun j hj => (ho2.lt j hj).1)
              obtain ⟨a3, c3, rfl⟩ := owns_shape ho3
              clear ho3' hg3
              go_wp2
              go_ret2
              have hlen : (ipL x 16 ++ ipL y 16 ++ [0, 0, h, l, 0, 0, 0, P]).length = 40 := by simp [ipL_len]
              rw [HL.out, hlen]
              exact ⟨_, ps_ret (by rw [HE.out]), ho3, hb6⟩
end Go.Proofs.YtfoeepbndfnifaaDoor
namespace Go.Proofs.YtfoeepbndfnifaaDoor
open Go.RowKit
open L4 (U9 T9)

theorem psOk_ver {V U : Int} {x y : Nat → Nat} (h : psOk V U x y = true) : (V = 4 ∨ V = 6) ∧ V = U := by
  simp only [psOk, Bool.and_eq_true, decide_eq_true_eq] at h
  have h1 := h.1.1
  unfold isAddr at h1
  by_cases h4 : V = 4
  · exact ⟨.inl h4, h.2⟩
  · rw [if_neg h4] at h1
    exact ⟨.inr (of_decide_eq_true h1), h.2⟩
theorem flat_few (l : List I4.OV) : l.length ≤ (I4.flatO l).length := by
  induction l with
  | nil => simp
  | cons o l ih => simp only [I4.flatO, List.length_cons, List.length_append]; omega
theorem d_zero (w : World) : DOk w [] none 0 0 := ⟨rfl, .inl rfl, by simp, Nat.le_refl _, by omega, by omega⟩
theorem t_zero (w : World) : TOk w t9z none 0 [] none 0 0 := ⟨rfl, rfl, .inl rfl, by omega, d_zero w⟩
theorem parseU_u (V U : Int) (x y : Nat → Nat) (a : Option Addr) (n cap : Nat) (bs : List Nat) (w : World) (hw : UW w) (hd : DOk w bs a n cap) (hx : ∀ i, i < 16 → x i < 256) (hy : ∀ i, i < 16 → y i < 256) :
    Calls Tryd.prog 7 #[.agg (ipCells V x), .agg (ipCells U y), .slice a n cap] w fun e w' => ∃ (er : Nat) (u : U9) (da : Option Addr) (m : Nat), e = .returned (.tuple #[.agg (uC u da m m), .int .i64 (er : Nat)]) ∧ Below w.heap.size w w' ∧ er = L4.uPE V (psOk V U x y) (psL V U x y 17 (L4.uN bs : Nat)) bs ∧ DOk w' u.d da m m ∧ (er = 0 → u = L4.uP bs ∧ m = L4.uN bs - 8 ∧ da = cutA a 8 m) ∧ (er ≠ 0 → u = u9z ∧ da = none ∧ m = 0) := by
  refine (parseU_any V U x y a n cap bs w hw hd hx hy).mono ?_
  rintro e w' ⟨er, rfl, hb, her⟩
  by_cases hz : er = 0
  · have h := L4.uPE_zero (her.symm.trans hz)
    refine ⟨er, L4.uP bs, cutA a 8 (L4.uN bs - 8), L4.uN bs - 8, by unfold puC; rw [if_pos hz], hb, her, ?_, fun _ => ⟨rfl, rfl, rfl⟩, fun h0 => absurd hz h0⟩
    have hl : 8 + (L4.uN bs - 8) ≤ bs.length := by omega
    have hs := (hd.seg.old hb).cut 8 (L4.uN bs - 8) (by rw [toI_len]; exact hl)
    rw [toI_drop, toI_take] at hs
    refine ⟨?_, hs, fun z hz => hd.d256 z (List.mem_of_mem_drop (List.mem_of_mem_take hz)), Nat.le_refl _, by omega, by omega⟩
    show ((bs.drop 8).take (L4.uN bs - 8)).length = _
    rw [List.length_take, List.length_drop]
    omega
  · exact ⟨er, u9z, none, 0, by unfold puC; rw [if_neg hz], hb, her, d_zero w', fun h0 => absurd h0 hz, fun _ => ⟨rfl, rfl, rfl⟩⟩
theorem parseT_u (V U : Int) (x y : Nat → Nat) (a : Option Addr) (n cap : Nat) (bs : List Nat) (w : World) (hw : TW w) (hlw : LW w) (hd : DOk w bs a n cap) (hx : ∀ i, i < 16 → x i < 256) (hy : ∀ i, i < 16 → y i < 256) :
    Calls Tryd.prog 9 #[.agg (ipCells V x), .agg (ipCells U y), .slice a n cap] w fun e w' => ∃ (er : Nat) (t : T9) (la : Option Addr) (ln lc : Nat) (os : List OpV) (da : Option Addr) (m : Nat), e = .returned (.tuple #[.agg (tC t la ln lc da m m), .int .i64 (er : Nat)]) ∧ Below w.heap.size w w' ∧ er = L4.tPE (psOk V U x y) (psL V U x y 6 (n : Nat)) bs ∧ TOk w' t la ln os da m m ∧ (er = 0 → t = L4.tP bs ∧ m = bs.length - L4.tH bs ∧ da = cutA a (L4.tH bs) m) ∧ (er ≠ 0 → t = t9z ∧ la = none ∧ ln = 0 ∧ lc = 0 ∧ os = [] ∧ da = none ∧ m = 0) ∧ (er = 0 → ∃ ops, L4.readO (L4.tOb bs) = some ops ∧ ln = ops.length ∧ os = ops.map (opV (a20 a cap) (L4.tOb bs)) ∧ w'.ownsRow w.heap.size 68 2 (.slice la ln lc) ln (opsC (a20 a cap) ops)) := by
  refine (parseT_any V U x y a n cap bs w hw hlw hd hx hy).mono ?_
  rintro e w' ⟨er, la, ln, lc, rfl, hb, her, hos⟩
  by_cases hz : er = 0
  · have h := L4.tPE_zero (her.symm.trans hz)
    obtain ⟨ops, hro, hrn, hown⟩ := hos hz
    have h9 := hd.old hb
    have o256 : ∀ z ∈ L4.tOb bs, z < 256 := fun z hz => h9.d256 z (List.mem_of_mem_drop (List.mem_of_mem_take hz))
    have hrs := L4.readO_some hro
    have hcp := hd.cap
    have hsg := seg_pre (seg_rest h9.seg 20 cap (by omega) (by rw [hd.dl]; exact hcp)) (L4.tH bs - 20)
    have hPat := opts_of_own hown hrn.symm hsg o256 (fun q hq => ((I4.scan_in _ 0 ops hrs.2.1 (Nat.zero_le _) o256).1 q hq).2.2.2) (by have h40 : (List.take (L4.tH bs - 20) (List.drop 20 bs)).length ≤ 40 := hrs.1; omega)
    have hdv := h9.seg.cut (L4.tH bs) (bs.length - L4.tH bs) (by rw [toI_len]; omega)
    rw [toI_drop, toI_take, List.take_of_length_le (by rw [List.length_drop]; omega)] at hdv
    have hol : ops.length ≤ 1099511627776 := by
      have h1 := (I4.scan_in _ 0 ops hrs.2.1 (Nat.zero_le _) o256).2
      have h2 := flat_few (ops.map (I4.ov (L4.tOb bs)))
      have h3 := hrs.1
      rw [List.length_map] at h2
      omega
    refine ⟨er, L4.tP bs, la, ln, lc, ops.map (opV (a20 a cap) (L4.tOb bs)), _, _, by unfold ptC; rw [if_pos hz], hb, her, ?_, fun _ => ⟨rfl, rfl, rfl⟩, fun h0 => absurd hz h0, fun _ => ⟨ops, hro, hrn, rfl, hown⟩⟩
    refine ⟨?_, by rw [List.length_map, hrn], hPat, by rw [hrn]; exact hol, ?_⟩
    · rw [vals_opV]
      simp only [L4.tP, hro, Option.getD_some]
    · refine ⟨?_, hdv, fun z hz => hd.d256 z (List.mem_of_mem_drop hz), Nat.le_refl _, by omega, by omega⟩
      show (bs.drop (L4.tH bs)).length = _
      rw [List.length_drop]
  · exact ⟨er, t9z, none, 0, 0, [], none, 0, by unfold ptC; rw [if_neg hz], hb, her, t_zero w', fun h0 => absurd h0 hz, fun _ => ⟨rfl, rfl, rfl, rfl, rfl, rfl, rfl⟩, fun h0 => absurd h0 hz⟩
theorem putU_ok (V U : Int) (x y : Nat → Nat) (u : U9) (da : Option Addr) (n c : Nat) (w : World) (hw : UW w) (k : DOk w u.d da n c) (hx : ∀ i, i < 16 → x i < 256) (hy : ∀ i, i < 16 → y i < 256) (hp : psOk V U x y = true) (hc : L4.uChk V u = 0) :
    Calls Tryd.prog 23 #[.agg (ipCells V x), .agg (ipCells U y), .agg (uC u da n c)] w fun e w' => ∃ g, e = .returned (.tuple #[.slice (some ⟨g, 0, none⟩) (8 + n : Nat) (8 + n : Nat), .int .i64 0]) ∧ Below w.heap.size w w' ∧ OwnB w' w.heap.size (.slice (some ⟨g, 0, none⟩) (8 + n) (8 + n)) (8 + n) (L4.uSer u (psL V U x y 17 ((8 + n : Nat) : Int))) ∧ DOk w' (L4.uSer u (psL V U x y 17 ((8 + n : Nat) : Int))) (some ⟨g, 0, none⟩) (8 + n) (8 + n) := by
  refine (putU_any V U x y u da n c w hw k hx hy).mono ?_
  rintro e w' ⟨v, er, rfl, her, hb, hr⟩
  have h0 : er = 0 := by rw [her]; unfold L4.uPutE; rw [hp, if_pos rfl, hc]
  subst h0
  rcases hr with ⟨_, g, rfl, ho⟩ | ⟨h, _⟩
  · refine ⟨g, rfl, hb, ho, ?_, (owns_seg_at ho).1, L4.uSer_256 u _ hc k.d256, Nat.le_refl _, ?_, ?_⟩
    · rw [L4.uSer_len, k.dl]
    · have := (L4.uChk_zero hc).2.2.2.2; rw [k.dl] at this; omega
    · have := (L4.uChk_zero hc).2.2.2.2; rw [k.dl] at this; omega
  · exact absurd rfl h
theorem parseU_ok (V U : Int) (x y : Nat → Nat) (u : U9) (n : Nat) (a : Option Addr) (w : World) (hw : UW w) (hx : ∀ i, i < 16 → x i < 256) (hy : ∀ i, i < 16 → y i < 256) (hp : psOk V U x y = true) (hc : L4.uChk V u = 0) (hn : u.d.length = n)
    (hd : DOk w (L4.uSer u (psL V U x y 17 ((8 + n : Nat) : Int))) a (8 + n) (8 + n)) :
    Calls Tryd.prog 7 #[.agg (ipCells V x), .agg (ipCells U y), .slice a (8 + n : Nat) (8 + n : Nat)] w fun e w' => ∃ dv, e = .returned (.tuple #[.agg (uC u dv n n), .int .i64 0]) ∧ Below w.heap.size w w' ∧ DOk w' u.d dv n n := by
  refine (parseU_u V U x y a (8 + n) (8 + n) _ w hw hd hx hy).mono ?_
  rintro e w' ⟨er, v, da, m, rfl, hb, her, hdv, h1, _⟩
  have h0 : er = 0 := by rw [her, hp, L4.uN_ser, hn]; exact L4.uPE_ser u _ (psL_even _ _ _ _ _ _) hc
  obtain ⟨e1, e2, _⟩ := h1 h0
  rw [L4.uP_ser u _ hc] at e1
  rw [L4.uN_ser, hn, Nat.add_sub_cancel_left] at e2
  subst h0 e1 e2
  exact ⟨da, rfl, hb, hdv⟩
theorem tSer_256 {w : World} {t : T9} {la : Option Addr} {ln : Nat} {os : List OpV} {da : Option Addr} {n c : Nat} (k : TOk w t la ln os da n c) (hc : L4.tChk t = 0) (pb : List Nat) : ∀ z ∈ L4.tSer t pb, z < 256 := by
  intro z hz
  rcases List.mem_append.1 hz with h | h
  · exact L4.tHd_256 t _ (L4.tChk_zero hc).1 (L4.tSum_le _ _) z h
  · rcases List.mem_append.1 h with h | h
    · exact put_256 t.os (by rw [← k.ov]; exact opts_256 k.oat) z h
    · exact k.d.d256 z h
theorem putT_ok (V U : Int) (x y : Nat → Nat) (t : T9) (la : Option Addr) (ln lc : Nat) (os : List OpV) (da : Option Addr) (n c : Nat) (w : World) (hw : TW w) (hlw : LW w) (k : TOk w t la ln os da n c) (hx : ∀ i, i < 16 → x i < 256) (hy : ∀ i, i < 16 → y i < 256) (hp : psOk V U x y = true) (hc : L4.tChk t = 0) :
    Calls Tryd.prog 24 #[.agg (ipCells V x), .agg (ipCells U y), .agg (tC t la ln lc da n c)] w fun e w' => ∃ g, e = .returned (.tuple #[.slice (some ⟨g, 0, none⟩) (20 + (I4.putO t.os).length + n : Nat) (20 + (I4.putO t.os).length + n : Nat), .int .i64 0]) ∧ Below w.heap.size w w' ∧ OwnB w' w.heap.size (.slice (some ⟨g, 0, none⟩) (20 + (I4.putO t.os).length + n) (20 + (I4.putO t.os).length + n)) (20 + (I4.putO t.os).length + n) (L4.tSer t (psL V U x y 6 ((20 + (I4.putO t.os).length + n : Nat) : Int))) ∧ DOk w' (L4.tSer t (psL V U x y 6 ((20 + (I4.putO t.os).length + n : Nat) : Int))) (some ⟨g, 0, none⟩) (20 + (I4.putO t.os).length + n) (20 + (I4.putO t.os).length + n) := by
  refine (putT_any V U x y t la ln lc os da n c w hw hlw k hx hy).mono ?_
  rintro e w' ⟨v, er, rfl, her, hb, hr⟩
  have h0 : er = 0 := by rw [her]; unfold L4.tPutE; rw [hp, if_pos rfl, hc]
  subst h0
  rcases hr with ⟨_, g, rfl, ho⟩ | ⟨h, _⟩
  · refine ⟨g, rfl, hb, ho, ?_, (owns_seg_at ho).1, tSer_256 k hc _, Nat.le_refl _, ?_, ?_⟩
    · rw [L4.tSer_len, k.d.dl]
    · have := (L4.tChk_zero hc).2.2; rw [k.d.dl] at this; omega
    · have := (L4.tChk_zero hc).2.2; rw [k.d.dl] at this; omega
  · exact absurd rfl h
theorem parseT_ok (V U : Int) (x y : Nat → Nat) (t : T9) (n ln : Nat) (a : Option Addr) (w : World) (hw : TW w) (hlw : LW w) (hx : ∀ i, i < 16 → x i < 256) (hy : ∀ i, i < 16 → y i < 256) (hp : psOk V U x y = true) (hc : L4.tChk t = 0) (hn : t.d.length = n) (hln : t.os.length = ln)
    (hd : DOk w (L4.tSer t (psL V U x y 6 ((20 + (I4.putO t.os).length + n : Nat) : Int))) a (20 + (I4.putO t.os).length + n) (20 + (I4.putO t.os).length + n)) :
    Calls Tryd.prog 9 #[.agg (ipCells V x), .agg (ipCells U y), .slice a (20 + (I4.putO t.os).length + n : Nat) (20 + (I4.putO t.os).length + n : Nat)] w fun e w' => ∃ ra rc ps dv, e = .returned (.tuple #[.agg (tC t ra ln rc dv n n), .int .i64 0]) ∧ Below w.heap.size w w' ∧ TOk w' t ra ln ps dv n n := by
  refine (parseT_u V U x y a _ _ _ w hw hlw hd hx hy).mono ?_
  rintro e w' ⟨er, v, ra, rn, rc, ps, dv, m, rfl, hb, her, hk, h1, _, _⟩
  have h0 : er = 0 := by rw [her, hp]; exact L4.tPE_ser t _ (psL_even _ _ _ _ _ _) hc
  obtain ⟨e1, e2, _⟩ := h1 h0
  rw [L4.tP_ser t _ hc] at e1
  rw [L4.tSer_len, L4.tH_ser, hn] at e2
  have e3 : m = n := by rw [e2]; unfold L4.tHs; omega
  subst h0 e1 e3
  have e4 : rn = ln := by
    have h1 := congrArg List.length hk.ov
    rw [hln] at h1
    simp only [vals, List.length_map] at h1
    rw [← h1, hk.ol]
  subst e4
  exact ⟨ra, rc, ps, dv, rfl, hb, hk⟩
end Go.Proofs.YtfoeepbndfnifaaDoor
namespace Go.Proofs.YtfoeepbndfnifaaDoor.L4
open I4 (flatI putOk putO okO)

theorem clO_false (m : Nat) (o : Int × List Nat) : clO false m o = o := by unfold clO; rw [if_neg (by simp)]
theorem toldV_le (o : Int × List Nat) (h : ∀ x ∈ o.2, x < 256) : toldV o ≤ 65535 := by
  have g := fun i => I4.getD_lt o.2 h i
  have h0 := g 0
  have h1 := g 1
  unfold toldV
  split <;> omega
theorem clO_tells (s : Bool) (m : Nat) (o : Int × List Nat) : tells (clO s m o) = tells o := by
  unfold clO
  split
  · rename_i h
    simp only [Bool.and_eq_true] at h
    have := h.1.1
    simp only [tells, Bool.and_eq_true, decide_eq_true_eq] at this
    simp [tells, this.1, this.2]
  · rfl
theorem clO_told (m : Nat) (o : Int × List Nat) (h : ∀ x ∈ o.2, x < 256) : toldV (clO true m o) = if m < toldV o then m else toldV o := by
  by_cases ht : tells o = true
  · by_cases hm : m < toldV o
    · have hle := toldV_le o h
      have e : clO true m o = (o.1, [m / 256, m % 256]) := by unfold clO; rw [if_pos (by simp [ht, hm])]
      have e2 : tells (o.1, [m / 256, m % 256]) = true := by rw [← e, clO_tells]; exact ht
      rw [if_pos hm, e]
      unfold toldV
      rw [e2, if_pos rfl]
      show m / 256 * 256 + m % 256 = m
      omega
    · rw [if_neg hm]
      unfold clO
      rw [if_neg (by simp [hm])]
  · have h0 : toldV o = 0 := by unfold toldV; rw [if_neg ht]
    have e : clO true m o = o := by unfold clO; rw [if_neg (by simp [ht])]
    rw [e, h0]
    simp
theorem mss_is (s : Bool) (m : Nat) (l : List (Int × List Nat)) : (mss (l.map (clO s m))).2 = (mss l).2 := by
  induction l with
  | nil => rfl
  | cons o l ih =>
    simp only [List.map_cons, mss, clO_tells]
    split
    · rfl
    · exact ih
theorem mss_cl (m : Nat) (l : List (Int × List Nat)) (h : ∀ o ∈ l, ∀ x ∈ o.2, x < 256) : (mss (l.map (clO true m))).1 = if m < (mss l).1 then m else (mss l).1 := by
  induction l with
  | nil => simp [mss]
  | cons o l ih =>
    simp only [List.map_cons, mss, clO_tells]
    split
    · exact clO_told m o (h o (List.mem_cons_self ..))
    · exact ih (fun p hp => h p (List.mem_cons_of_mem _ hp))
theorem mss_id (m : Nat) (l : List (Int × List Nat)) : l.map (clO false m) = l := by
  conv => rhs; rw [← List.map_id l]
  exact List.map_congr_left (fun o _ => clO_false m o)
/-- twice is once -/
theorem clO_idem (s : Bool) (m : Nat) (o : Int × List Nat) (h : ∀ x ∈ o.2, x < 256) : clO s m (clO s m o) = clO s m o := by
  cases s with
  | false => rw [clO_false, clO_false]
  | true =>
    have ht := clO_told m o h
    have hle : ¬ m < toldV (clO true m o) := by rw [ht]; split <;> omega
    have e : ∀ q : Int × List Nat, ¬ m < toldV q → clO true m q = q := fun q hq => by unfold clO; rw [if_neg (by simp [hq])]
    exact e _ hle
theorem clO_kind (s : Bool) (m : Nat) (o : Int × List Nat) : (clO s m o).1 = o.1 ∧ (clO s m o).2.length = o.2.length := by
  unfold clO
  split
  · rename_i h
    simp only [Bool.and_eq_true] at h
    have := h.1.1
    simp only [tells, Bool.and_eq_true, decide_eq_true_eq] at this
    exact ⟨rfl, by rw [this.2]; rfl⟩
  · exact ⟨rfl, rfl⟩
theorem cl_okO (s : Bool) (m : Nat) (l : List (Int × List Nat)) : (l.map (clO s m)).all okO = l.all okO := by
  rw [List.all_map]
  congr 1
  funext o
  simp only [Function.comp, okO, (clO_kind s m o).1, (clO_kind s m o).2]
theorem cl_lens (s : Bool) (m : Nat) (l : List (Int × List Nat)) : lensOk (l.map (clO s m)) = lensOk l := by
  unfold lensOk
  rw [List.all_map]
  congr 1
  funext o
  simp only [Function.comp, (clO_kind s m o).1, (clO_kind s m o).2]
theorem cl_flat (s : Bool) (m : Nat) (l : List (Int × List Nat)) : (flatI (l.map (clO s m))).length = (flatI l).length := by
  unfold flatI
  induction l with
  | nil => rfl
  | cons o l ih =>
    simp only [List.map_cons, I4.flatO_cons]
    rw [ih]
    show (clO s m o).2.length + 2 + _ = o.2.length + 2 + _
    rw [(clO_kind s m o).2]
theorem cl_put (s : Bool) (m : Nat) (l : List (Int × List Nat)) : putOk (l.map (clO s m)) = putOk l ∧ (putO (l.map (clO s m))).length = (putO l).length := by
  have e : putOk (l.map (clO s m)) = putOk l := by unfold putOk; rw [cl_okO, cl_flat]
  refine ⟨e, ?_⟩
  unfold putO
  rw [e]
  split
  · rw [I4.pad4_len, I4.pad4_len, cl_flat]
  · rfl
theorem cl_chk (s : Bool) (m : Nat) (t : T9) : tChk { t with os := t.os.map (clO s m) } = tChk t := by
  have e1 : tPutOk (t.os.map (clO s m)) = tPutOk t.os := by unfold tPutOk; rw [(cl_put s m t.os).1, cl_lens]
  have e2 := (cl_put s m t.os).2
  unfold tChk
  show (if tOkF t = true then (if tPutOk (t.os.map (clO s m)) = true then (if 65535 < 20 + (putO (t.os.map (clO s m))).length + t.d.length then 2 else 0) else 97) else 98) = _
  rw [e1, e2]
end Go.Proofs.YtfoeepbndfnifaaDoor.L4
namespace Go.Proofs.YtfoeepbndfnifaaDoor
open Go.RowKit
open L4 (U9 T9)

set_option maxHeartbeats 800000 in
set_option maxRecDepth 100000 in
theorem copied_any (a : Option Addr) (n cap : Nat) (l : List Nat) (w : World) (hn : l.length = n) (hs : Seg .u8 w a (toI l)) (hm : n ≤ 140737488355328) :
    Calls Tryd.prog 5 #[.slice a n cap] w fun e w' => ∃ v, e = .returned v ∧ w'.ownsRow w.heap.size 5 1 v n ((toI l).map (Value.int .u8)) ∧ Below w.heap.size w w' := by
  obtain ⟨i0, hi, hz0, hz1, hz2⟩ := info_parts Tryd.infoByte
  have HN : Hid (l.length = n) := hn
  have HS : Hid (Seg .u8 w a (toI l)) := hs
  clear hn hs
  go_enter Tryd.func5, Tryd.ntmps5
  go_wp2_with (first | (at_builtin; refine append_split_seg rfl (.tmp 4) (.tmp 5) 25 rfl w.heap.size 5 i0 (.int .u8 0) 1 Tryd.underlying25 hi hz0 hz1 hz2 rfl (.slice none 0 0) 0 [] rfl (World.ownsRow_nil _ _ _ _) .u8 a n cap (toI l) rfl (by rw [toI_len]; exact HN.out) HS.out (by unfold maxLen; omega) (by omega) (Nat.le_refl _) ?_))
  intro v' w' ho hq hg
  have hb : Below w.heap.size w w' := (Below.refl _ _).grown hg (Nat.le_refl _) (by intro k hk; simp [Value.ownBlock] at hk)
  have HO : Hid (w'.ownsRow w.heap.size 5 1 v' n ((toI l).map (Value.int .u8))) := by
    have h1 : w'.ownsRow w.heap.size 5 1 v' n ((toI l).map (Value.int .u8)) := by simpa using ho
    exact h1
  clear ho hq hg
  go_wp2
  go_ret
  exact ⟨_, rfl, HO.out, hb⟩
theorem kindN {w : World} {B : Nat} {e : TypeId} {sz : Nat} {v : Value} {n : Nat} {xs : List Value} (h : w.ownsRow B e sz v n xs) : ∀ g, v.ownBlock = some g → ∃ c, w.heap[g]? = some (.cells c e (0, 0)) := by
  intro g hg
  rcases h.2 with ⟨rfl, _⟩ | ⟨g', cap, cur, rfl, _, hh, _⟩
  · simp [Value.ownBlock] at hg
  · simp [Value.ownBlock] at hg; subst hg; exact ⟨cur, hh⟩
theorem apartN {w : World} {B B' : Nat} {e e' : TypeId} {s s' : Nat} {v v' : Value} {n n' : Nat} {xs xs' : List Value} (h : w.ownsRow B e s v n xs) (h' : w.ownsRow B' e' s' v' n' xs') (hne : e ≠ e') : v.ownBlock = none ∨ v.ownBlock ≠ v'.ownBlock := by
  cases hv : v.ownBlock with
  | none => exact .inl rfl
  | some g =>
    refine .inr (fun hc => hne ?_)
    obtain ⟨c, hc1⟩ := kindN h g hv
    obtain ⟨c', hc2⟩ := kindN h' g hc.symm
    rw [hc1] at hc2
    simp at hc2
    exact hc2.2
def opC9 (o : OpV) : List Value := [.int .i64 o.k, .slice o.a o.d.length o.c]
def opCs (ps : List OpV) : List Value := ps.flatMap opC9
theorem opCs_snoc (ps : List OpV) (p : OpV) : opCs (ps ++ [p]) = opCs ps ++ opC9 p := by simp [opCs]
theorem opCs_get (ps : List OpV) (i : Nat) (o : OpV) (h : ps[i]? = some o) : (opCs ps)[i * 2]? = some (.int .i64 o.k) ∧ (opCs ps)[i * 2 + 1]? = some (.slice o.a o.d.length o.c) := by
  induction ps generalizing i with
  | nil => simp at h
  | cons p ps ih =>
    have e : opCs (p :: ps) = .int .i64 p.k :: .slice p.a p.d.length p.c :: opCs ps := by simp [opCs, opC9]
    rw [e]
    cases i with
    | zero => simp at h; subst h; exact ⟨rfl, rfl⟩
    | succ i =>
      have := ih i (by simpa using h)
      rw [show (i + 1) * 2 = i * 2 + 1 + 1 by omega, show i * 2 + 1 + 1 + 1 = (i * 2 + 1) + 1 + 1 by omega]
      simpa using this
/-- the state of CloneOpts' loop -/
structure CoS (w : World) (os : List OpV) (v : Value) (k : Nat) (ps : List OpV) (wr : World) : Prop where
  own : wr.ownsRow w.heap.size 68 2 v ps.length (opCs ps)
  rows : ∀ p ∈ ps, wr.ownsRow w.heap.size 5 1 (.slice p.a p.d.length p.c) p.d.length ((toI p.d).map (Value.int .u8))
  vs : vals ps = (vals os).take k
  bel : Below w.heap.size w wr
  dis : ps.Pairwise (fun a b => ∀ z y, a.a = some z → b.a = some y → z.block ≠ y.block)
theorem CoS.len {w wr : World} {os ps : List OpV} {v : Value} {k : Nat} (h : CoS w os v k ps wr) (hk : k ≤ os.length) : ps.length = k := by
  have := congrArg List.length h.vs
  simp only [vals, List.length_map, List.length_take] at this
  omega
theorem CoS.below {w wr w' : World} {os ps : List OpV} {v : Value} {k : Nat} (h : CoS w os v k ps wr) (b : Below wr.heap.size wr w') : CoS w os v k ps w' :=
  ⟨(Ch.ofBelow (S := fun _ => False) b).owns h.own (fun _ _ => id), fun p hp => (Ch.ofBelow (S := fun _ => False) b).owns (h.rows p hp) (fun _ _ => id), h.vs, h.bel.trans (b.mono h.bel.size), h.dis⟩
theorem CoS.opts {w wr : World} {os ps : List OpV} {la : Option Addr} {n lc k : Nat} (h : CoS w os (.slice la n lc) k ps wr) (hn : ps.length = n) (ho : ∀ o ∈ vals os, ∀ x ∈ o.2, x < 256) : OptsAt wr la ps := by
  have hown := h.own
  rw [hn] at hown
  rcases hown.2 with ⟨_, h0⟩ | ⟨g, cap, cur, e, _, hg, _, _, _, ht⟩
  · left; exact List.eq_nil_of_length_eq_zero (by omega)
  · simp only [Value.slice.injEq, true_and] at e
    obtain ⟨rfl, rfl⟩ := e
    refine .inr ⟨g, 0, rfl, (Array.getElem?_eq_some_iff.1 hg).1, fun i o hi => ?_⟩
    have hpm := List.mem_of_getElem? hi
    have hin : i < n := by have := (List.getElem?_eq_some_iff.1 hi).1; omega
    obtain ⟨c1, c2⟩ := opCs_get ps i o hi
    have d1 := hown.cellAt (i * 2) (by omega)
    have d2 := hown.cellAt (i * 2 + 1) (by omega)
    rw [c1] at d1
    rw [c2] at d2
    obtain ⟨a', c', e1, hsg, _, q1, q2⟩ := owns_seg (h.rows o hpm)
    simp only [Value.slice.injEq, true_and] at e1
    refine ⟨⟨by rw [e1.1]; exact hsg, ?_, by rw [e1.2]; exact q1, by rw [e1.2]; unfold maxLen at q2; exact q2⟩, by rw [Nat.zero_add]; exact d1, by rw [Nat.zero_add]; exact d2⟩
    have hv : o.val ∈ vals os := by
      have : o.val ∈ vals ps := List.mem_map.2 ⟨o, hpm, rfl⟩
      rw [h.vs] at this
      exact List.mem_of_mem_take this
    exact ho _ hv
theorem OptsAt.ch {S : Nat → Prop} {w w' : World} {la : Option Addr} {os : List OpV} (h : OptsAt w la os) (c : Ch S w w') (h1 : ∀ x, la = some x → ¬ S x.block) (h2 : ∀ o ∈ os, ∀ x, o.a = some x → ¬ S x.block) : OptsAt w' la os := by
  rcases h with h | ⟨b, off, ha, hlt, hc⟩
  · exact .inl h
  · have hb := h1 _ ha
    refine .inr ⟨b, off, ha, Nat.lt_of_lt_of_le hlt c.size, fun i o ho => ?_⟩
    obtain ⟨q1, q2, q3⟩ := hc i o ho
    exact ⟨⟨c.seg q1.seg (fun x _ hx => h2 o (List.mem_of_getElem? ho) x hx), q1.h256, q1.le, q1.cap⟩, c.cell q2 hb, c.cell q3 hb⟩
theorem own_addr {w : World} {B : Nat} {e : TypeId} {s n m c : Nat} {a : Option Addr} {xs : List Value} (h : w.ownsRow B e s (.slice a n c) m xs) (x : Addr) (hx : a = some x) : B ≤ x.block := by
  rcases h.2 with ⟨h0, _⟩ | ⟨g, cap, cur, e1, hb, _⟩
  · simp only [Value.slice.injEq] at h0
    rw [hx] at h0
    simp at h0
  · simp only [Value.slice.injEq] at e1
    rw [hx] at e1
    have := Option.some.inj e1.1
    rw [this]
    exact hb

theorem uAt_set3 {w : World} {O : Nat} {u : U9} {da : Option Addr} {n c : Nat} (k : UAt w O u da n c) (db : Option Addr) (m dc : Nat) : UAt (w.setCell ⟨O, 3, none⟩ (.slice db m dc)) O u db m dc ∧ Ch (fun q => q = O) w (w.setCell ⟨O, 3, none⟩ (.slice db m dc)) := by
  refine ⟨?_, (Ch.refl (fun q => q = O) w).set _ _ rfl⟩
  unfold UAt at k ⊢
  rw [heap_setCell_same w O 3 _ _ _ k]
  rfl
theorem tAt_set7 {w : World} {O : Nat} {t : T9} {la : Option Addr} {ln lc : Nat} {da : Option Addr} {n c : Nat} (k : TAt w O t la ln lc da n c) (lb : Option Addr) (m dc : Nat) : TAt (w.setCell ⟨O, 7, none⟩ (.slice lb m dc)) O t lb m dc da n c ∧ Ch (fun q => q = O) w (w.setCell ⟨O, 7, none⟩ (.slice lb m dc)) := by
  refine ⟨?_, (Ch.refl (fun q => q = O) w).set _ _ rfl⟩
  unfold TAt at k ⊢
  rw [heap_setCell_same w O 7 _ _ _ k]
  rfl
theorem tAt_set8 {w : World} {O : Nat} {t : T9} {la : Option Addr} {ln lc : Nat} {da : Option Addr} {n c : Nat} (k : TAt w O t la ln lc da n c) (db : Option Addr) (m dc : Nat) : TAt (w.setCell ⟨O, 8, none⟩ (.slice db m dc)) O t la ln lc db m dc ∧ Ch (fun q => q = O) w (w.setCell ⟨O, 8, none⟩ (.slice db m dc)) := by
  refine ⟨?_, (Ch.refl (fun q => q = O) w).set _ _ rfl⟩
  unfold TAt at k ⊢
  rw [heap_setCell_same w O 8 _ _ _ k]
  rfl
end Go.Proofs.YtfoeepbndfnifaaDoor
namespace Go.Proofs.YtfoeepbndfnifaaDoor
open Go.RowKit
open L4 (U9 T9)

theorem owns_at {w : World} {base : Nat} {e : TypeId} {g : Option Addr} {n c : Nat} {k : IntKind} {zs : List Int} (h : w.ownsRow base e 1 (.slice g n c) n (zs.map (Value.int k))) : Seg k w g zs ∧ n ≤ c ∧ c ≤ 9223372036854775807 := by
  obtain ⟨a, c', e1, hs, _, h1, h2⟩ := owns_seg h
  simp only [Value.slice.injEq, true_and] at e1
  rw [e1.1, e1.2]
  exact ⟨hs, h1, by unfold maxLen at h2; exact h2⟩
theorem owns_below {w w' : World} {base : Nat} {e : TypeId} {s : Nat} {v : Value} {n : Nat} {xs : List Value} (h : w.ownsRow base e s v n xs) (b : Below w.heap.size w w') : w'.ownsRow base e s v n xs := (Ch.ofBelow (S := fun _ => False) b).owns h (fun _ _ => id)
theorem add_blk (x : Addr) (i : Nat) : (x.add i).block = x.block := by
  unfold Addr.add
  split <;> rfl
theorem cutA_blk {a : Option Addr} {i n : Nat} {z : Addr} (h : cutA a i n = some z) : ∃ x, a = some x ∧ z.block = x.block := by
  unfold cutA at h
  split at h
  · exact ⟨z, h, rfl⟩
  · cases a with
    | none => simp at h
    | some x =>
      simp only [Option.map_some, Option.some.injEq] at h
      exact ⟨x, rfl, by rw [← h, add_blk]⟩
theorem seg_newz (w : World) (zs : List Int) (t : TypeId) : Seg .u8 (w.alloc (.cells (zs.map (Value.int .u8)).toArray t)) (some ⟨w.heap.size, 0, none⟩) zs := by
  refine .inr ⟨w.heap.size, 0, rfl, fun i hi => ?_⟩
  rw [World.cell?_alloc_at _ _ _ _ rfl]
  simp [hi, List.getD]
theorem owns_some {w : World} {B : Nat} {e : TypeId} {s m : Nat} {v : Value} {xs : List Value} (h : w.ownsRow B e s v m xs) (hm : 0 < m) : ∃ g c, v = .slice (some ⟨g, 0, none⟩) m c := by
  rcases h.2 with ⟨_, h0⟩ | ⟨g, cap, cur, e1, _⟩
  · omega
  · exact ⟨g, cap, e1⟩
/-- bytes of a window turned over -/
def xr (l : List Nat) (p k c : Nat) : List Nat := (List.range l.length).map (fun i => if p ≤ i ∧ i < p + k then l.getD i 0 ^^^ c else l.getD i 0)
theorem xr_len (l : List Nat) (p k c : Nat) : (xr l p k c).length = l.length := by simp [xr]
theorem xr_get (l : List Nat) (p k c i : Nat) (h : i < l.length) : (xr l p k c).getD i 0 = if p ≤ i ∧ i < p + k then l.getD i 0 ^^^ c else l.getD i 0 := by
  unfold xr
  simp only [List.getD, List.getElem?_map, List.getElem?_range h, Option.map_some, Option.getD_some]
theorem ext_getD {l m : List Nat} (hl : l.length = m.length) (h : ∀ i, i < l.length → l.getD i 0 = m.getD i 0) : l = m := I4.getD_ext hl h
theorem xr_zero (l : List Nat) (p c : Nat) : xr l p 0 c = l := by
  refine ext_getD (xr_len _ _ _ _) (fun i hi => ?_)
  rw [xr_len] at hi
  rw [xr_get _ _ _ _ _ hi, if_neg (by omega)]
theorem xr_step (l : List Nat) (p k c : Nat) : (xr l p k c).set (p + k) (l.getD (p + k) 0 ^^^ c) = xr l p (k + 1) c := by
  refine ext_getD (by simp [xr_len]) (fun i hi => ?_)
  rw [List.length_set, xr_len] at hi
  rw [xr_get _ _ _ _ _ hi]
  by_cases e : i = p + k
  · subst e
    rw [if_pos (by omega)]
    simp [List.getD, xr_len, hi]
  · have : ((xr l p k c).set (p + k) (l.getD (p + k) 0 ^^^ c)).getD i 0 = (xr l p k c).getD i 0 := by
      simp only [List.getD, List.getElem?_set]
      rw [if_neg (fun h => e h.symm)]
    rw [this, xr_get _ _ _ _ _ hi]
    by_cases h1 : p ≤ i ∧ i < p + k
    · rw [if_pos h1, if_pos (by omega)]
    · rw [if_neg h1, if_neg (by omega)]
theorem xr_next (l : List Nat) (p k c : Nat) (h : p + k < l.length) : (xr l p k c).getD (p + k) 0 = l.getD (p + k) 0 := by rw [xr_get _ _ _ _ _ h, if_neg (by omega)]
theorem xr_back (l : List Nat) (p n c : Nat) : xr (xr l p n c) p n c = l := by
  refine ext_getD (by rw [xr_len, xr_len]) (fun i hi => ?_)
  rw [xr_len, xr_len] at hi
  rw [xr_get _ _ _ _ _ (by rw [xr_len]; exact hi), xr_get _ _ _ _ _ hi]
  by_cases h1 : p ≤ i ∧ i < p + n
  · rw [if_pos h1, if_pos h1, Nat.xor_assoc, Nat.xor_self, Nat.xor_zero]
  · rw [if_neg h1, if_neg h1]
theorem xr_256 (l : List Nat) (p k c : Nat) (h : ∀ x ∈ l, x < 256) (hc : c < 256) : ∀ x ∈ xr l p k c, x < 256 := by
  intro x hx
  simp only [xr, List.mem_map, List.mem_range] at hx
  obtain ⟨i, hi, rfl⟩ := hx
  have h1 := I4.getD_lt l h i
  split
  · exact Nat.xor_lt_two_pow (n := 8) h1 hc
  · exact h1
theorem xr_app (a b : List Nat) (p k c : Nat) (h : p + k ≤ a.length) : xr (a ++ b) p k c = xr a p k c ++ b := by
  refine ext_getD (by simp [xr_len]) (fun i hi => ?_)
  rw [xr_len] at hi
  rw [xr_get _ _ _ _ _ hi]
  by_cases h1 : i < a.length
  · rw [I4.getD_app1 (xr a p k c) b i (by rw [xr_len]; exact h1), xr_get _ _ _ _ _ h1, I4.getD_app1 a b i h1]
  · rw [if_neg (by omega)]
    obtain ⟨j, rfl⟩ : ∃ j, i = a.length + j := ⟨i - a.length, by omega⟩
    rw [I4.getD_app2]
    have := I4.getD_app2 (xr a p k c) b j
    rw [xr_len] at this
    rw [this]
theorem xr_take (l : List Nat) (p k c n : Nat) (h : n ≤ p) : (xr l p k c).take n = l.take n := by
  refine ext_getD (by simp [xr_len]) (fun i hi => ?_)
  rw [List.length_take, xr_len] at hi
  rw [I4.getD_take _ _ _ (by omega), I4.getD_take _ _ _ (by omega), xr_get _ _ _ _ _ (by omega), if_neg (by omega)]
theorem xr_low (l : List Nat) (p k c i : Nat) (h : i < p) : (xr l p k c).getD i 0 = l.getD i 0 := by
  by_cases hi : i < l.length
  · rw [xr_get _ _ _ _ _ hi, if_neg (by omega)]
  · simp [List.getD, List.getElem?_eq_none (show l.length ≤ i by omega), List.getElem?_eq_none (show (xr l p k c).length ≤ i by rw [xr_len]; omega)]
theorem xor_lt (x c : Nat) (hx : x < 256) (hc : c < 256) : x ^^^ c < 256 := Nat.xor_lt_two_pow (n := 8) hx hc
/-- how many of the first k lie in the window -/
def cntW (p D k : Nat) : Nat := min k (p + D) - min k p
theorem three_new (w : World) (x y z : Value) (t : TypeId) : ∀ j u, ([x, y, z] : List Value)[j]? = some u → (w.alloc (.cells #[x, y, z] t)).cell? ((⟨w.heap.size, 0, none⟩ : Addr).add j) = some u := by
  intro j u hj
  rw [Addr.add_lit, Nat.zero_add, World.cell?_alloc_at _ _ _ _ rfl]
  match j, hj with
  | 0, hj => simpa using hj
  | 1, hj => simpa using hj
  | 2, hj => simpa using hj
  | j + 3, hj => simp at hj
end Go.Proofs.YtfoeepbndfnifaaDoor
namespace Go.Proofs.YtfoeepbndfnifaaDoor
open Go.RowKit
open L4 (U9 T9)
theorem own_dn {w w' : World} (hb : Below w.heap.size w w') {B : Nat} {t : TypeId} {sz : Nat} {v : Value} {n : Nat} {xs : List Value} (h : w.ownsRow B t sz v n xs) : w'.ownsRow B t sz v n xs :=
  (Ch.ofBelow (S := fun _ => False) hb).owns h (fun _ _ q => q.elim)
def wU9 (V U : Int) (x y : Nat → Nat) (u : U9) (n : Nat) : List Nat := if L4.uPutE (psOk V U x y) V u = 0 then L4.uSer u (psL V U x y 17 ((8 + n : Nat) : Int)) else []
def wT9 (V U : Int) (x y : Nat → Nat) (t : T9) (n : Nat) : List Nat := if L4.tPutE (psOk V U x y) t = 0 then L4.tSer t (psL V U x y 6 ((20 + (I4.putO t.os).length + n : Nat) : Int)) else []
def wO9 (os : List OpV) : List Nat := if L4.tPutOk (vals os) then I4.putO (vals os) else []
abbrev Wrt (w : World) (l : List Nat) (v : Value) (w' : World) : Prop := ∃ va, v = .slice va l.length l.length ∧ w'.ownsRow w.heap.size 5 1 (.slice va l.length l.length) l.length ((toI l).map (Value.int .u8))
theorem uE_ok {V U : Int} {x y : Nat → Nat} {u : U9} (h : L4.uPutE (psOk V U x y) V u = 0) : L4.uChk V u = 0 := by
  unfold L4.uPutE at h
  cases hp : psOk V U x y with
  | true => rw [hp, if_pos rfl] at h; exact h
  | false => rw [hp] at h; cases h
theorem tE_ok {V U : Int} {x y : Nat → Nat} {t : T9} (h : L4.tPutE (psOk V U x y) t = 0) : L4.tChk t = 0 := by
  unfold L4.tPutE at h
  cases hp : psOk V U x y with
  | true => rw [hp, if_pos rfl] at h; exact h
  | false => rw [hp] at h; cases h
theorem wU9_ok (V U : Int) (x y : Nat → Nat) {u : U9} {w : World} {da : Option Addr} {n c : Nat} (k : DOk w u.d da n c) : (∀ z ∈ wU9 V U x y u n, z < 256) ∧ (wU9 V U x y u n).length ≤ 65535 := by
  unfold wU9
  split
  · rename_i h
    have h1 := uE_ok h
    exact ⟨L4.uSer_256 u _ h1 k.d256, by rw [L4.uSer_len]; exact (L4.uChk_zero h1).2.2.2.2⟩
  · exact ⟨by simp, by simp⟩
theorem wT9_ok (V U : Int) (x y : Nat → Nat) {t : T9} {w : World} {la : Option Addr} {ln : Nat} {os : List OpV} {da : Option Addr} {n c : Nat} (k : TOk w t la ln os da n c) : (∀ z ∈ wT9 V U x y t n, z < 256) ∧ (wT9 V U x y t n).length ≤ 65535 := by
  unfold wT9
  split
  · rename_i h
    have h1 := tE_ok h
    exact ⟨tSer_256 k h1 _, by rw [L4.tSer_len]; exact (L4.tChk_zero h1).2.2⟩
  · exact ⟨by simp, by simp⟩
theorem wO9_ok {w : World} {la : Option Addr} {os : List OpV} (h : OptsAt w la os) : (∀ z ∈ wO9 os, z < 256) ∧ (wO9 os).length ≤ 65535 := by
  unfold wO9
  split
  · exact ⟨put_256 (vals os) (opts_256 h), by have := (I4.put_len (vals os)).1; omega⟩
  · exact ⟨by simp, by simp⟩
theorem putU_v (V U : Int) (x y : Nat → Nat) (u : U9) (da : Option Addr) (n c : Nat) (w : World) (hw : UW w) (k : DOk w u.d da n c) (hx : ∀ i, i < 16 → x i < 256) (hy : ∀ i, i < 16 → y i < 256) :
    Calls Tryd.prog 23 #[.agg (ipCells V x), .agg (ipCells U y), .agg (uC u da n c)] w fun e w' => ∃ v er, e = .returned (.tuple #[v, .int .i64 er]) ∧ Below w.heap.size w w' ∧ Wrt w (wU9 V U x y u n) v w' := by
  refine (putU_any V U x y u da n c w hw k hx hy).mono ?_
  rintro e w' ⟨v, er, rfl, her, hb, hr⟩
  refine ⟨v, _, rfl, hb, ?_⟩
  rcases hr with ⟨h0, g, rfl, ho⟩ | ⟨h0, rfl⟩
  · have e1 : wU9 V U x y u n = L4.uSer u (psL V U x y 17 ((8 + n : Nat) : Int)) := by unfold wU9; rw [if_pos (by rw [← her]; exact h0)]
    have e2 : (wU9 V U x y u n).length = 8 + n := by rw [e1, L4.uSer_len, k.dl]
    exact ⟨some ⟨g, 0, none⟩, by rw [e2], by rw [e2, e1]; exact ho⟩
  · have e1 : wU9 V U x y u n = [] := by unfold wU9; rw [if_neg (by rw [← her]; exact h0)]
    rw [Wrt, e1]
    exact ⟨none, rfl, World.ownsRow_nil _ _ _ _⟩
theorem putT_v (V U : Int) (x y : Nat → Nat) (t : T9) (la : Option Addr) (ln lc : Nat) (os : List OpV) (da : Option Addr) (n c : Nat) (w : World) (hw : TW w) (hlw : LW w) (k : TOk w t la ln os da n c) (hx : ∀ i, i < 16 → x i < 256) (hy : ∀ i, i < 16 → y i < 256) :
    Calls Tryd.prog 24 #[.agg (ipCells V x), .agg (ipCells U y), .agg (tC t la ln lc da n c)] w fun e w' => ∃ v er, e = .returned (.tuple #[v, .int .i64 er]) ∧ Below w.heap.size w w' ∧ Wrt w (wT9 V U x y t n) v w' := by
  refine (putT_any V U x y t la ln lc os da n c w hw hlw k hx hy).mono ?_
  rintro e w' ⟨v, er, rfl, her, hb, hr⟩
  refine ⟨v, _, rfl, hb, ?_⟩
  rcases hr with ⟨h0, g, rfl, ho⟩ | ⟨h0, rfl⟩
  · have e1 : wT9 V U x y t n = L4.tSer t (psL V U x y 6 ((20 + (I4.putO t.os).length + n : Nat) : Int)) := by unfold wT9; rw [if_pos (by rw [← her]; exact h0)]
    have e2 : (wT9 V U x y t n).length = 20 + (I4.putO t.os).length + n := by rw [e1, L4.tSer_len, k.d.dl]
    exact ⟨some ⟨g, 0, none⟩, by rw [e2], by rw [e2, e1]; exact ho⟩
  · have e1 : wT9 V U x y t n = [] := by unfold wT9; rw [if_neg (by rw [← her]; exact h0)]
    rw [Wrt, e1]
    exact ⟨none, rfl, World.ownsRow_nil _ _ _ _⟩
theorem putO_v (la : Option Addr) (n cap : Nat) (os : List OpV) (w : World) (hd : LW w) (hn : os.length = n) (ho : OptsAt w la os) (hnn : n ≤ 1048576) :
    Calls Tryd.prog 50 #[.slice la n cap] w fun e w' => ∃ v er, e = .returned (.tuple #[v, .int .i64 er]) ∧ Below w.heap.size w w' ∧ Wrt w (wO9 os) v w' := by
  refine (tput_any la n cap os w hd hn ho (by omega)).mono ?_
  rintro e w' ⟨v, rfl, hb, hr⟩
  refine ⟨v, _, rfl, hb, ?_⟩
  rcases hr with ⟨h0, g, rfl, ho⟩ | ⟨h0, rfl⟩
  · have e1 : wO9 os = I4.putO (vals os) := by unfold wO9; rw [if_pos h0]
    rw [Wrt, e1]
    exact ⟨some ⟨g, 0, none⟩, rfl, ho⟩
  · have e1 : wO9 os = [] := by unfold wO9; rw [h0]; rfl
    rw [Wrt, e1]
    exact ⟨none, rfl, World.ownsRow_nil _ _ _ _⟩
theorem own_dok {w : World} {B n c : Nat} {a : Option Addr} {l : List Nat} (h : w.ownsRow B 5 1 (.slice a n c) n ((toI l).map (Value.int .u8))) (h256 : ∀ z ∈ l, z < 256) (hn : n ≤ 1099511627776) : DOk w l a n c := by
  obtain ⟨h1, h2, h3⟩ := owns_seg_at h
  exact ⟨OwnB.len h, h1, h256, h2, h3, hn⟩
theorem boxed_ch {S : Nat → Prop} {w w' : World} {B : Nat} {V : Int} {x : Nat → Nat} (h : Boxed w B V x) (c : Ch S w w') (hS : ¬ S B) : Boxed w' B V x :=
  ⟨c.cell h.ver hS, fun j hj => c.cell (h.byte j hj) hS⟩
theorem ClS.all' {w wr : World} {os ps : List OpV} {syn : Bool} {m G k : Nat} (h : ClS w os syn m G k ps wr) (hk : os.length = k) : vals ps = (vals os).map (L4.clO syn m) := by
  rw [h.vs, List.take_of_length_le (by simp [vals, hk])]
theorem ClS.small' {w wr : World} {os ps : List OpV} {syn : Bool} {m G k : Nat} (h : ClS w os syn m G k ps wr) (hk : os.length = k) (hs : ∀ o ∈ os, o.d.length ≤ 1048576) : ∀ o ∈ ps, o.d.length ≤ 1048576 := by
  intro p hp
  have e : p.val ∈ vals ps := List.mem_map_of_mem hp
  rw [h.all' hk] at e
  obtain ⟨q, hq, e2⟩ := List.mem_map.1 e
  obtain ⟨o, ho, rfl⟩ := List.mem_map.1 hq
  have := (L4.clO_kind syn m o.val).2
  have h3 := hs o ho
  have e3 : p.d = (L4.clO syn m o.val).2 := congrArg Prod.snd e2.symm
  rw [e3, this]
  exact h3
end Go.Proofs.YtfoeepbndfnifaaDoor
