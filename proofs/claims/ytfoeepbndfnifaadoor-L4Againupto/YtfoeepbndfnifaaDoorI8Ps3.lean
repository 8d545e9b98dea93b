/-
  sum.Pseudo.
-/
import Derived.Test.YtfoeepbndfnifaaDoorI8Ps2
namespace Go.Proofs.YtfoeepbndfnifaaDoor
open Go.RowKit

/-- may these be the ends of one header? -/
def psOk (V U : Int) (x y : Nat → Nat) : Bool := isAddr V x && isAddr U y && decide (V = U)
def psIn (p n : Int) : Bool := decide (0 ≤ p ∧ p ≤ 255 ∧ 0 ≤ n ∧ n ≤ 65535)
def psE (V U : Int) (x y : Nat → Nat) (p n : Int) : Int := if psOk V U x y then (if psIn p n then 0 else 1) else 20
def psL (V U : Int) (x y : Nat → Nat) (p n : Int) : List Nat :=
  if psOk V U x y && psIn p n then
    (if V = 4 then ipL x 4 ++ ipL y 4 ++ [0, p.toNat, n.toNat / 256, n.toNat % 256]
     else ipL x 16 ++ ipL y 16 ++ [0, 0, n.toNat / 256, n.toNat % 256, 0, 0, 0, p.toNat])
  else []
theorem ps_ret {v : Value} {k1 : IntKind} {a b : Int} (h : a = b) : Ending.returned (.tuple #[v, .int k1 a]) = .returned (.tuple #[v, .int k1 b]) := by rw [h]
theorem isW_in {n : Int} (h : 0 ≤ n ∧ n ≤ 65535) : isW n = true := by simp [isW]; omega

theorem below_of_grown {a b : World} {r : Option Nat} (h : a.grownBy b r) (hr : r = none) : Below a.heap.size a b := by
  subst hr
  exact ⟨h.os, h.tape, h.output, h.size, fun k hk => h.block k hk (by simp)⟩
theorem news_new (w : World) (vs : List Value) (t : TypeId) : ∀ (j : Nat) (u : Value), vs[j]? = some u → (w.alloc (.cells vs.toArray t)).cell? ((⟨w.heap.size, 0, none⟩ : Addr).add j) = some u := by
  intro j u hj
  rw [Addr.add_lit, Nat.zero_add, World.cell?_alloc_at _ _ _ _ rfl]
  simpa using hj
set_option maxHeartbeats 3200000 in
set_option maxRecDepth 100000 in
theorem pseudo_any (V U : Int) (x y : Nat → Nat) (p n : Int) (w : World) :
    Calls Tryd.prog 45 #[.agg (ipCells V x), .agg (ipCells U y), .int .i64 p, .int .i64 n] w fun e w' => ∃ v, e = .returned (.tuple #[v, .int .i64 (psE V U x y p n)]) ∧ OwnB w' w.heap.size v (psL V U x y p n).length (psL V U x y p n) ∧ ((psL V U x y p n).length = 0 → v = .slice none 0 0) ∧ Below w.heap.size w w' := by
  obtain ⟨i0, hi, hz0, hz1, hz2⟩ := info_parts Tryd.infoByte
  have hx1 := boxed_new w V x 24
  have hy1 := boxed_new (w.alloc (.cells (ipCells V x) 24)) U y 24
  have hb1 : Below w.heap.size w ((w.alloc (.cells (ipCells V x) 24)).alloc (.cells (ipCells U y) 24)) := ((Below.refl _ _).alloc (Nat.le_refl _) _).alloc (by simp) _
  have hx2 := hx1.old ((Below.refl _ _).alloc (Nat.le_refl _) (.cells (ipCells U y) 24))
  clear hx1
  rw [World.size_alloc] at hy1
  obtain ⟨A, hA⟩ : ∃ A, A = ipCells V x := ⟨_, rfl⟩
  obtain ⟨C, hC⟩ : ∃ C, C = ipCells U y := ⟨_, rfl⟩
  rw [← hA] at hx2 hy1 hb1 ⊢
  rw [← hC] at hx2 hy1 hb1 ⊢
  have HA : Hid (A = ipCells V x) := hA
  have HC : Hid (C = ipCells U y) := hC
  clear hA hC
  go_enter Tryd.func45, Tryd.ntmps45
  go_upto_region 1 with fail
  obtain ⟨W, hW⟩ : ∃ W, W = (w.alloc (.cells A 24)).alloc (.cells C 24) := ⟨_, rfl⟩
  rw [← hW] at hx2 hy1 hb1 ⊢
  clear hW
  obtain ⟨B, hB⟩ : ∃ B, B = w.heap.size := ⟨_, rfl⟩
  have HB : Hid (w.heap.size = B) := hB.symm
  rw [← hB] at hx2 hy1 ⊢
  clear hB
  go_cut [29] (fun s wx => s = .bool (!psOk V U x y) ∧ Boxed wx B V x ∧ Boxed wx (B + 1) U y ∧ Below w.heap.size w wx)
  case first =>
    have hx2v : W.cell? ⟨B, 0, none⟩ = some (.int .i64 V) := hx2.ver
    have hx2_0 : W.cell? ⟨B, 1, none⟩ = some (.int .u8 (x 0 : Nat)) := hx2.byte 0 (by decide)
    have hx2_1 : W.cell? ⟨B, 2, none⟩ = some (.int .u8 (x 1 : Nat)) := hx2.byte 1 (by decide)
    have hx2_2 : W.cell? ⟨B, 3, none⟩ = some (.int .u8 (x 2 : Nat)) := hx2.byte 2 (by decide)
    have hx2_3 : W.cell? ⟨B, 4, none⟩ = some (.int .u8 (x 3 : Nat)) := hx2.byte 3 (by decide)
    have hx2_4 : W.cell? ⟨B, 5, none⟩ = some (.int .u8 (x 4 : Nat)) := hx2.byte 4 (by decide)
    have hx2_5 : W.cell? ⟨B, 6, none⟩ = some (.int .u8 (x 5 : Nat)) := hx2.byte 5 (by decide)
    have hx2_6 : W.cell? ⟨B, 7, none⟩ = some (.int .u8 (x 6 : Nat)) := hx2.byte 6 (by decide)
    have hx2_7 : W.cell? ⟨B, 8, none⟩ = some (.int .u8 (x 7 : Nat)) := hx2.byte 7 (by decide)
    have hx2_8 : W.cell? ⟨B, 9, none⟩ = some (.int .u8 (x 8 : Nat)) := hx2.byte 8 (by decide)
    have hx2_9 : W.cell? ⟨B, 10, none⟩ = some (.int .u8 (x 9 : Nat)) := hx2.byte 9 (by decide)
    have hx2_10 : W.cell? ⟨B, 11, none⟩ = some (.int .u8 (x 10 : Nat)) := hx2.byte 10 (by decide)
    have hx2_11 : W.cell? ⟨B, 12, none⟩ = some (.int .u8 (x 11 : Nat)) := hx2.byte 11 (by decide)
    have hx2_12 : W.cell? ⟨B, 13, none⟩ = some (.int .u8 (x 12 : Nat)) := hx2.byte 12 (by decide)
    have hx2_13 : W.cell? ⟨B, 14, none⟩ = some (.int .u8 (x 13 : Nat)) := hx2.byte 13 (by decide)
    have hx2_14 : W.cell? ⟨B, 15, none⟩ = some (.int .u8 (x 14 : Nat)) := hx2.byte 14 (by decide)
    have hx2_15 : W.cell? ⟨B, 16, none⟩ = some (.int .u8 (x 15 : Nat)) := hx2.byte 15 (by decide)
    go_wp2_with fail
    refine (isAddress_any V x _).mono ?_
    rintro e w1 ⟨rfl, hb2⟩
    have hx3 := hx2.old hb2
    have hy3 := hy1.old hb2
    have hb02 := hb1.trans (hb2.mono hb1.size)
    clear hx2v hx2_0 hx2_1 hx2_2 hx2_3 hx2_4 hx2_5 hx2_6 hx2_7 hx2_8 hx2_9 hx2_10 hx2_11 hx2_12 hx2_13 hx2_14 hx2_15
    cases ha : isAddr V x with
    | false =>
      go_wp2
      go_meet
      exact ⟨by simp [psOk, ha], hx3, hy3, hb02⟩
    | true =>
      have hy3v : w1.cell? ⟨(B + 1), 0, none⟩ = some (.int .i64 U) := hy3.ver
      have hy3_0 : w1.cell? ⟨(B + 1), 1, none⟩ = some (.int .u8 (y 0 : Nat)) := hy3.byte 0 (by decide)
      have hy3_1 : w1.cell? ⟨(B + 1), 2, none⟩ = some (.int .u8 (y 1 : Nat)) := hy3.byte 1 (by decide)
      have hy3_2 : w1.cell? ⟨(B + 1), 3, none⟩ = some (.int .u8 (y 2 : Nat)) := hy3.byte 2 (by decide)
      have hy3_3 : w1.cell? ⟨(B + 1), 4, none⟩ = some (.int .u8 (y 3 : Nat)) := hy3.byte 3 (by decide)
      have hy3_4 : w1.cell? ⟨(B + 1), 5, none⟩ = some (.int .u8 (y 4 : Nat)) := hy3.byte 4 (by decide)
      have hy3_5 : w1.cell? ⟨(B + 1), 6, none⟩ = some (.int .u8 (y 5 : Nat)) := hy3.byte 5 (by decide)
      have hy3_6 : w1.cell? ⟨(B + 1), 7, none⟩ = some (.int .u8 (y 6 : Nat)) := hy3.byte 6 (by decide)
      have hy3_7 : w1.cell? ⟨(B + 1), 8, none⟩ = some (.int .u8 (y 7 : Nat)) := hy3.byte 7 (by decide)
      have hy3_8 : w1.cell? ⟨(B + 1), 9, none⟩ = some (.int .u8 (y 8 : Nat)) := hy3.byte 8 (by decide)
      have hy3_9 : w1.cell? ⟨(B + 1), 10, none⟩ = some (.int .u8 (y 9 : Nat)) := hy3.byte 9 (by decide)
      have hy3_10 : w1.cell? ⟨(B + 1), 11, none⟩ = some (.int .u8 (y 10 : Nat)) := hy3.byte 10 (by decide)
      have hy3_11 : w1.cell? ⟨(B + 1), 12, none⟩ = some (.int .u8 (y 11 : Nat)) := hy3.byte 11 (by decide)
      have hy3_12 : w1.cell? ⟨(B + 1), 13, none⟩ = some (.int .u8 (y 12 : Nat)) := hy3.byte 12 (by decide)
      have hy3_13 : w1.cell? ⟨(B + 1), 14, none⟩ = some (.int .u8 (y 13 : Nat)) := hy3.byte 13 (by decide)
      have hy3_14 : w1.cell? ⟨(B + 1), 15, none⟩ = some (.int .u8 (y 14 : Nat)) := hy3.byte 14 (by decide)
      have hy3_15 : w1.cell? ⟨(B + 1), 16, none⟩ = some (.int .u8 (y 15 : Nat)) := hy3.byte 15 (by decide)
      go_wp2_with fail
      refine (isAddress_any U y _).mono ?_
      rintro e w2 ⟨rfl, hb3⟩
      have hx4 := hx3.old hb3
      have hy4 := hy3.old hb3
      have hb03 := hb02.trans (hb3.mono hb02.size)
      clear hy3v hy3_0 hy3_1 hy3_2 hy3_3 hy3_4 hy3_5 hy3_6 hy3_7 hy3_8 hy3_9 hy3_10 hy3_11 hy3_12 hy3_13 hy3_14 hy3_15
      cases hc : isAddr U y with
      | false =>
        go_wp2
        go_meet
        exact ⟨by simp [psOk, hc], hx4, hy4, hb03⟩
      | true =>
        have hx4v := hx4.ver
        have hy4v := hy4.ver
        by_cases hVU : V = U
        · subst hVU
          have hne : (V != V) = false := by simp
          go_wp2
          go_meet
          exact ⟨by simp [psOk, ha, hc], hx4, hy4, hb03⟩
        · have hne : (V != U) = true := by simpa using hVU
          go_wp2
          go_meet
          exact ⟨by simp [psOk, hVU], hx4, hy4, hb03⟩
  case rest =>
  obtain ⟨rfl, hx3, hy3, hb3⟩ := hcut
  clear hx2 hy1 hb1
  cases hps : psOk V U x y with
  | false =>
    go_wp2
    go_ret2
    have e1 : psL V U x y p n = [] := by simp [psL, hps]
    rw [e1]
    exact ⟨_, ps_ret (by simp [psE, hps]), World.ownsRow_nil _ _ _ _, (fun _ => rfl), hb3⟩
  | true =>
  go_upto_region 3 with fail
  go_cut [40] (fun s wx => s = .bool (!psIn p n) ∧ wx = wc)
  case first =>
    by_cases hp0 : p < 0
    · go_wp2
      go_meet
      exact ⟨by simp [psIn]; omega, rfl⟩
    · by_cases hp1 : 255 < p
      · go_wp2
        go_meet
        exact ⟨by simp [psIn]; omega, rfl⟩
      · go_wp2_with fail
        refine (isWord_any n _).mono ?_
        rintro e w1 ⟨rfl, rfl⟩
        cases hw : isW n with
        | false =>
          go_wp2
          go_meet
          exact ⟨by simp [isW] at hw; simp [psIn]; omega, rfl⟩
        | true =>
          go_wp2
          go_meet
          exact ⟨by simp [isW] at hw; simp [psIn]; omega, rfl⟩
  case rest =>
  obtain ⟨rfl, rfl⟩ := hcut
  cases hpi : psIn p n with
  | false =>
    go_wp2
    go_ret2
    have e1 : psL V U x y p n = [] := by simp [psL, hpi]
    rw [e1]
    exact ⟨_, ps_ret (by simp [psE, hps, hpi]), World.ownsRow_nil _ _ _ _, (fun _ => rfl), hb3⟩
  | true =>
    have hr : 0 ≤ p ∧ p ≤ 255 ∧ 0 ≤ n ∧ n ≤ 65535 := by simpa [psIn] using hpi
    have HE : Hid (psE V U x y p n = 0) := by show _ = _; simp [psE, hps, hpi]
    obtain ⟨P, rfl⟩ : ∃ P : Nat, p = P := ⟨p.toNat, by omega⟩
    obtain ⟨N, rfl⟩ : ∃ N : Nat, n = N := ⟨n.toNat, by omega⟩
    have hP : P ≤ 255 := by omega
    have hN : N ≤ 65535 := by omega
    have hh : IntKind.u8.wrap ((N : Int) / 256) = ((N / 256 : Nat) : Int) := u8_hi N hN
    have hl : IntKind.u8.wrap (N : Int) = ((N % 256 : Nat) : Int) := u8_lo N
    have hk : IntKind.u8.wrap (P : Int) = (P : Int) := by rw [u8_lo]; omega
    obtain ⟨h, hhe⟩ : ∃ h, h = N / 256 := ⟨_, rfl⟩
    obtain ⟨l, hle⟩ : ∃ l, l = N % 256 := ⟨_, rfl⟩
    rw [← hhe] at hh
    rw [← hle] at hl
    have HHL : Hid (h = N / 256 ∧ l = N % 256) := ⟨hhe, hle⟩
    have hVU : V = U := by simp [psOk] at hps; exact hps.2
    have hv3 := hx3.ver
    clear hhe hle hr
    by_cases h4 : V = 4
    · have HL : Hid (psL V U x y P N = ipL x 4 ++ ipL y 4 ++ [0, P, h, l]) := by
        show _ = _
        rw [psL, hps, hpi, h4, HHL.out.1, HHL.out.2]
        simp
      subst h4
      clear hpi hps hVU
      go_wp2_with (first | (at_builtin; refine wpList_append_seg rfl (.const (.slice none 0 0)) (.tmp 52) 25 rfl w.heap.size 5 i0 (.int .u8 0) 1 Tryd.underlying25 hi hz0 hz1 hz2 rfl (.slice none 0 0) 0 [] rfl (World.ownsRow_nil _ _ _ _) .u8 _ _ _ (toI (ipL x 4)) rfl (by rw [toI_len, ipL_len]) (hx3.seg 4 (by omega)) (by unfold maxLen; omega) (by omega) hb3.size ?_))
      intro v1 w1 ho1' hg1
      have ho1 : OwnB w1 w.heap.size v1 4 (ipL x 4) := by simpa [OwnB] using ho1'
      have hb4 : Below w.heap.size w w1 := hb3.grown hg1 hb3.size (by intro k hk; simp [Value.ownBlock] at hk)
      have hy4 := hy3.old (below_of_grown hg1 (by simp [Value.ownBlock]))
      obtain ⟨a1, c1, rfl⟩ := owns_shape ho1
      clear ho1' hg1
      go_wp2_with (first | (at_builtin; refine wpList_append_seg rfl (.tmp 54) (.tmp 56) 25 rfl w.heap.size 5 i0 (.int .u8 0) 1 Tryd.underlying25 hi hz0 hz1 hz2 rfl _ 4 _ rfl ho1 .u8 _ _ _ (toI (ipL y 4)) rfl (by rw [toI_len, ipL_len]) (hy4.seg 4 (by omega)) (by unfold maxLen; omega) (by omega) hb4.size ?_))
      intro v2 w2 ho2' hg2
      have ho2 : OwnB w2 w.heap.size v2 8 (ipL x 4 ++ ipL y 4) := by simpa [OwnB, toI] using ho2'
      have hb5 : Below w.heap.size w w2 := hb4.grown hg2 hb4.size (fun j hj => (ho1.lt j hj).1)
      obtain ⟨a2, c2, rfl⟩ := owns_shape ho2
      clear ho2' hg2
      go_wp2_with (first | (at_builtin; refine wpList_append_own _ rfl (.tmp 58) (.tmp 62) 25 rfl w.heap.size 5 i0 (.int .u8 0) 1 1 Tryd.underlying25 hi hz0 hz1 hz2 rfl (by decide) _ _ _ rfl (ho2.alloc _) ⟨w2.heap.size, 0, none⟩ 4 4 [.int .u8 0, .int .u8 (P : Int), .int .u8 (h : Int), .int .u8 (l : Int)] rfl rfl (news_new _ _ _) (by intro u hu; simp only [List.mem_cons, List.not_mem_nil, or_false] at hu; rcases hu with rfl | rfl | rfl | rfl <;> rfl) (by unfold maxLen; omega) (by omega) (by have := hb5.size; simp; omega) ?_))
      intro v3 w3 ho3' hg3 _
      have ho3 : OwnB w3 w.heap.size v3 12 (ipL x 4 ++ ipL y 4 ++ [0, P, h, l]) := by simpa [OwnB, toI] using ho3'
      have hb6 : Below w.heap.size w w3 := (hb5.alloc hb5.size _).grown hg3 (by have := hb5.size; simp; omega) (fun j hj => (ho2.lt j hj).1)
      obtain ⟨a3, c3, rfl⟩ := owns_shape ho3
      clear ho3' hg3
      go_wp2
      go_ret2
      have hlen : (ipL x 4 ++ ipL y 4 ++ [0, P, h, l]).length = 12 := by simp [ipL_len]
      rw [HL.out, hlen]
      exact ⟨_, ps_ret (by rw [HE.out]), ho3, (fun h => by simp at h), hb6⟩
    · have h4' : (V == 4) = false := by simpa using h4
      have HL : Hid (psL V U x y P N = ipL x 16 ++ ipL y 16 ++ [0, 0, h, l, 0, 0, 0, P]) := by
        show _ = _
        rw [psL, hps, hpi, if_neg h4, HHL.out.1, HHL.out.2]
        simp
      clear hpi hps hVU
      go_wp2_with (first | (at_builtin; refine wpList_append_seg rfl (.const (.slice none 0 0)) (.tmp 65) 25 rfl w.heap.size 5 i0 (.int .u8 0) 1 Tryd.underlying25 hi hz0 hz1 hz2 rfl (.slice none 0 0) 0 [] rfl (World.ownsRow_nil _ _ _ _) .u8 _ _ _ (toI (ipL x 16)) rfl (by rw [toI_len, ipL_len]) (hx3.seg 16 (by omega)) (by unfold maxLen; omega) (by omega) hb3.size ?_))
      intro v1 w1 ho1' hg1
      have ho1 : OwnB w1 w.heap.size v1 16 (ipL x 16) := by simpa [OwnB] using ho1'
      have hb4 : Below w.heap.size w w1 := hb3.grown hg1 hb3.size (by intro k hk; simp [Value.ownBlock] at hk)
      have hy4 := hy3.old (below_of_grown hg1 (by simp [Value.ownBlock]))
      obtain ⟨a1, c1, rfl⟩ := owns_shape ho1
      clear ho1' hg1
      go_wp2_with (first | (at_builtin; refine wpList_append_seg rfl (.tmp 67) (.tmp 69) 25 rfl w.heap.size 5 i0 (.int .u8 0) 1 Tryd.underlying25 hi hz0 hz1 hz2 rfl _ 16 _ rfl ho1 .u8 _ _ _ (toI (ipL y 16)) rfl (by rw [toI_len, ipL_len]) (hy4.seg 16 (by omega)) (by unfold maxLen; omega) (by omega) hb4.size ?_))
      intro v2 w2 ho2' hg2
      have ho2 : OwnB w2 w.heap.size v2 32 (ipL x 16 ++ ipL y 16) := by simpa [OwnB, toI] using ho2'
      have hb5 : Below w.heap.size w w2 := hb4.grown hg2 hb4.size (fun j hj => (ho1.lt j hj).1)
      obtain ⟨a2, c2, rfl⟩ := owns_shape ho2
      clear ho2' hg2
      go_wp2_with (first | (at_builtin; refine wpList_append_own _ rfl (.tmp 71) (.tmp 75) 25 rfl w.heap.size 5 i0 (.int .u8 0) 1 1 Tryd.underlying25 hi hz0 hz1 hz2 rfl (by decide) _ _ _ rfl (ho2.alloc _) ⟨w2.heap.size, 0, none⟩ 8 8 [.int .u8 0, .int .u8 0, .int .u8 (h : Int), .int .u8 (l : Int), .int .u8 0, .int .u8 0, .int .u8 0, .int .u8 (P : Int)] rfl rfl (news_new _ _ _) (by intro u hu; simp only [List.mem_cons, List.not_mem_nil, or_false] at hu; rcases hu with rfl | rfl | rfl | rfl | rfl | rfl | rfl | rfl <;> rfl) (by unfold maxLen; omega) (by omega) (by have := hb5.size; simp; omega) ?_))
      intro v3 w3 ho3' hg3 _
      have ho3 : OwnB w3 w.heap.size v3 40 (ipL x 16 ++ ipL y 16 ++ [0, 0, h, l, 0, 0, 0, P]) := by simpa [OwnB, toI] using ho3'
      have hb6 : Below w.heap.size w w3 := (hb5.alloc hb5.size _).grown hg3 (by have := hb5.size; simp; omega) (fun j hj => (ho2.lt j hj).1)
      obtain ⟨a3, c3, rfl⟩ := owns_shape ho3
      clear ho3' hg3
      go_wp2
      go_ret2
      have hlen : (ipL x 16 ++ ipL y 16 ++ [0, 0, h, l, 0, 0, 0, P]).length = 40 := by simp [ipL_len]
      rw [HL.out, hlen]
      exact ⟨_, ps_ret (by rw [HE.out]), ho3, (fun h => by simp at h), hb6⟩
end Go.Proofs.YtfoeepbndfnifaaDoor
