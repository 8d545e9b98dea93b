/-
  Ip4OneBit: the walk.
-/
import Derived.Test.YtdinhgfkpjaipaaDoorI4Start2
import Derived.Test.YtdinhgfkpjaipaaDoorI4Open
namespace Go.Proofs.YtdinhgfkpjaipaaDoor
open Go.RowKit
open I4 (H4)

theorem xor_bit : ∀ x, x < 256 → ∀ s, s < 8 → (x ^^^ 2 ^ s = x + 2 ^ s ∨ (x ^^^ 2 ^ s) + 2 ^ s = x) ∧ x ^^^ 2 ^ s < 256 ∧ 1 ≤ 2 ^ s ∧ 2 ^ s ≤ 128 := by decide +kernel
theorem flip_bad (l : List Nat) (i x s : Nat) (hi : i < l.length) (hx : x = l[i]) (hx2 : x < 256) (hs : s < 8) (h : S.fold (S.wv false l) = 65535) : S.fold (S.wv false (l.set i (x ^^^ 2 ^ s))) ≠ 65535 := by
  obtain ⟨h1, h2, h3, h4⟩ := xor_bit x hx2 s hs
  have e := S.wv_set false l i (x ^^^ 2 ^ s) hi
  rw [← hx] at e
  rw [S.fold_full] at h
  intro hc
  rw [S.fold_full] at hc
  generalize x ^^^ 2 ^ s = y at *
  generalize 2 ^ s = p at *
  have hw : S.wt false i = 1 ∨ S.wt false i = 256 := by unfold S.wt; split <;> simp
  rcases hw with hw | hw <;> rw [hw] at e <;> omega
theorem getElem_getD2 (l : List Nat) (i : Nat) (h : i < l.length) : l[i] = l.getD i 0 := by simp [List.getD, h]
/-- a bit of a header that is turned over is told -/
theorem bit_told (h : H4) (m : I4.May h) (h256 : ∀ x ∈ I4.ser h, x < 256) (j s x : Nat) (hj : j < I4.serHd h) (hs : s < 8) (hx : x = (I4.ser h).getD j 0) (hb : j = 0 → 4 ≤ s) : I4.pE ((I4.ser h).set j (x ^^^ 2 ^ s)) ≠ 0 := by
  intro e
  have t := (I4.pE_zero _).1 e
  have hlen : I4.serHd h ≤ (I4.ser h).length := by rw [I4.ser_len]; simp [I4.serTl]
  have hx2 : x < 256 := by rw [hx]; exact I4.getD_lt _ h256 j
  obtain ⟨x1, x2, x3, x4⟩ := xor_bit x hx2 s hs
  have t0 := I4.ser_taken h m
  by_cases h0 : j = 0
  · have v1 := t.ver
    have v0 := t0.ver
    subst h0
    rw [← hx] at v0
    have e0 : ((I4.ser h).set 0 (x ^^^ 2 ^ s)).getD 0 0 = x ^^^ 2 ^ s := by
      have : 0 < (I4.ser h).length := by omega
      simp [List.getD, this]
    rw [e0] at v1
    have hs4 := hb rfl
    have : s = 4 ∨ s = 5 ∨ s = 6 ∨ s = 7 := by omega
    rcases this with rfl | rfl | rfl | rfl <;> generalize x ^^^ _ = y at * <;> omega
  · have e0 : I4.hdL ((I4.ser h).set j (x ^^^ 2 ^ s)) = I4.serHd h := by
      rw [← I4.ser_hd h]
      unfold I4.hdL
      congr 2
      simp only [List.getD, List.getElem?_set]
      rw [if_neg h0]
    have g := t.good
    rw [e0, List.take_set] at g
    have hjl : j < ((I4.ser h).take (I4.serHd h)).length := by rw [List.length_take]; omega
    refine flip_bad _ j x s hjl ?_ hx2 hs (by have := t0.good; rwa [I4.ser_hd] at this) g
    rw [hx, getElem_getD2, I4.getD_take _ _ _ hj]
theorem shr128 (r : Nat) (h : r < 8) : 128 / 2 ^ r = 2 ^ (7 - r) := by
  have : r = 0 ∨ r = 1 ∨ r = 2 ∨ r = 3 ∨ r = 4 ∨ r = 5 ∨ r = 6 ∨ r = 7 := by omega
  rcases this with rfl | rfl | rfl | rfl | rfl | rfl | rfl | rfl <;> rfl
theorem yields_b8 {ops : Array Oper} {o : Oper} {a : Act} {S : World → Prop} (x : Operand) (ho : o.op = .load 5 x) (p : Addr) (u : Value) (hx : a.eval x = .pointer (some p)) (hw : Region.wanted o (yielded ops a.tmps) = true) (hS : ∀ w, S w → w.cell? p = some u) : YieldsIf Tryd.prog ops S o u a := by
  refine .inl ⟨hw, fun w hb => ?_⟩
  have hc := hS w hb
  have hu := Tryd.underlying5
  obtain ⟨dst, op, type, pos, after, guard⟩ := o
  simp only at ho
  subst ho
  simp only [execOp, Sem.run_bind, Sem.run_pure]
  rw [hx]
  simp [Instr.loadAt, go_sem, hc]

set_option maxHeartbeats 6400000 in
set_option maxRecDepth 100000 in
theorem ip4OneBit.walk (w : World) (hw : Wid w) (h : H4) (la : Option Addr) (ln lc : Nat) (os : List OpV) (da : Option Addr) (n c : Nat) (k : H4Ok w h la ln lc os da n c) (A : Int) (wA : (Lit.int .i64 A).wf = true) :
    Calls Tryd.prog 3 #[.agg (h4C h (.slice la ln lc) (.slice da n c)), .int .i64 A] w fun e w' => e = .returned (.bool true) ∧ Below w.heap.size w w' := by
  obtain ⟨W, hW⟩ : ∃ W, W = w.alloc (.cells (h4C h (.slice la ln lc) (.slice da n c)) 28) := ⟨_, rfl⟩
  obtain ⟨O, hO⟩ : ∃ O, O = w.heap.size := ⟨_, rfl⟩
  have bel : Below w.heap.size w W := by rw [hW]; exact (Below.refl _ _).alloc (Nat.le_refl _) _
  have HB : Hid (H4At W O h (.slice la ln lc) (.slice da n c)) := by rw [hW, hO]; exact h4At_new _ _ _ _
  obtain ⟨C, hC⟩ : ∃ C, C = h4C h (.slice la ln lc) (.slice da n c) := ⟨_, rfl⟩
  have HW : Hid (w.alloc (.cells C 28) = W) := by rw [hC]; exact hW.symm
  have HO : Hid (w.heap.size = O) := hO.symm
  rw [← hC]
  have HK : Hid (H4Ok w h la ln lc os da n c) := k
  have HWID : Hid (∀ A, Below w.heap.size w A → Wid A) := fun A hA => hw.old hA
  have hA2 : -9223372036854775808 ≤ A ∧ A ≤ 9223372036854775807 := by
    simp [Lit.wf, IntKind.min, IntKind.max, IntKind.bits, IntKind.signed] at wA
    omega
  obtain ⟨hA0, hA1⟩ := hA2
  have QS : Hid _ := started_any W (hw.old bel)
  have hdn := k.dn
  obtain ⟨R, hR⟩ : ∃ R, R = I4.chk h := ⟨_, rfl⟩
  have HR : Hid (R = I4.chk h) := hR
  clear hW hC hO k hw wA hR
  go_enter Tryd.func3, Tryd.ntmps3
  go_upto_region 1 with fail
  rw [HW.out, HO.out]
  go_wp2_with fail
  refine Calls.mono QS.out ?_
  rintro e w1 ⟨rfl, hb1⟩
  have bel1 := bthen bel hb1
  have HB1 : Hid (H4At w1 O h (.slice la ln lc) (.slice da n c)) := H4At.below HB.out hb1
  have QR : Hid _ := serialise_any h la ln lc os da n c w1 (HWID.out w1 bel1) (HK.out.old bel1)
  rw [← HR.out] at QR
  clear QS hb1 HB HW bel
  go_wp2_with (first | (refine wpList_load_h4 _ rfl O h (.slice la ln lc) (.slice da n c) rfl HB1.out rfl ?_))
  refine Calls.mono QR.out ?_
  rintro e w2 ⟨v, rfl, hb2, hs⟩
  have bel2 := bthen bel1 hb2
  have g42 : w2.cell? ⟨O, 42, none⟩ = some (.slice da n c) := (H4At.below HB1.out hb2).c42
  have HW1 : Hid (w.heap.size ≤ w1.heap.size) := bel1.size
  clear QR hb2 HB1 bel1
  rcases hs with ⟨h0, g, rfl, ho⟩ | ⟨hne, rfl⟩
  case inr =>
    have b1 : ((R : Int) != 0) = true := by rw [HR.out, bne_iff_ne]; omega
    have q1 : IntKind.i64.wrap ((0 : Int) - (n : Int)) = 0 - (n : Int) := by rw [IntKind.wrap_i64]; omega
    clear hne
    go_wp2_with fail
    refine Calls.mono (num_any R w2) ?_
    rintro e w3 ⟨rfl, rfl⟩
    go_wp2
    go_ret
    exact ⟨rfl, bel2⟩
  have hR0 : R = 0 := by rw [HR.out]; exact h0
  subst hR0
  have HM : Hid (I4.May h) := (I4.chk_zero h).1 h0
  obtain ⟨cb, hcb⟩ : ∃ cb, cb = I4.ser h := ⟨_, rfl⟩
  rw [← hcb] at ho ⊢
  have HCB : Hid (cb = I4.ser h) := hcb
  have H256 : Hid (∀ x ∈ cb, x < 256) := by rw [hcb]; exact ser_256 h HM.out HK.out.sx HK.out.dx (by rw [HK.out.hos]; exact opts_256 HK.out.opts) HK.out.d256
  obtain ⟨T, hT⟩ : ∃ T, T = cb.length := ⟨_, rfl⟩
  obtain ⟨hd, hhd⟩ : ∃ hd, hd = I4.serHd h := ⟨_, rfl⟩
  have hTh : T = hd + n := by rw [hT, hcb, I4.ser_len, hhd, I4.serTl, HK.out.dl]
  have hhb : hd ≤ 60 := by rw [hhd]; exact (I4.hd_bounds h).2.1
  have hTl : T ≤ 65535 := by have := HM.out.tot; rw [hTh, hhd, I4.serHd, ← HK.out.dl]; exact this
  have HHD : Hid (hd = I4.serHd h) := hhd
  have HT : Hid (cb.length = T) := hT.symm
  rw [← hT] at ho ⊢
  have HOW : Hid (w2.ownsRow w1.heap.size 5 1 (.slice (some ⟨g, 0, none⟩) T T) T ((toI cb).map (Value.int .u8))) := ho
  have HG : Hid (w.heap.size ≤ g) := Nat.le_trans HW1.out (ho.lt g rfl).1
  have hTd : hd ≤ T := by omega
  have q1 : IntKind.i64.wrap ((T : Int) - (n : Int)) = (hd : Int) := by rw [IntKind.wrap_i64]; omega
  have q2 : IntKind.i64.wrap (8 * (hd : Int)) = 8 * (hd : Int) := by rw [IntKind.wrap_i64]; omega
  clear h0 ho hcb hT hhd HR hTh
  go_wp2_with fail
  refine Calls.mono (num_any 0 w2) ?_
  rintro e w3 ⟨rfl, rfl⟩
  by_cases c1 : A < 0
  · go_wp2
    go_ret
    exact ⟨rfl, bel2⟩
  by_cases c2 : 8 * (hd : Int) ≤ A
  · go_wp2
    go_ret
    exact ⟨rfl, bel2⟩
  by_cases c3 : 4 ≤ A ∧ A < 8
  · obtain ⟨c3, c4⟩ := c3
    go_wp2
    go_ret
    exact ⟨rfl, bel2⟩
  obtain ⟨j, r, hjr, hr8⟩ : ∃ j r : Nat, A = ((8 * j + r : Nat) : Int) ∧ r < 8 := ⟨A.toNat / 8, A.toNat % 8, by omega, by omega⟩
  have hjh : j < hd := by omega
  have hj0 : j = 0 → r < 4 := by intro e; omega
  have hjT : j < T := by omega
  obtain ⟨x, hx⟩ : ∃ x, x = cb.getD j 0 := ⟨_, rfl⟩
  have hx2 : x < 256 := by rw [hx]; exact I4.getD_lt cb H256.out j
  have cel : w2.cell? ⟨g, j, none⟩ = some (.int .u8 (x : Int)) := by
    have := HOW.out.cellAt j (by omega)
    rw [this, hx]
    have hl : j < cb.length := by rw [HT.out]; exact hjT
    simp [toI, List.getD, hl]
  have frz : w2.frozen? ⟨g, j, none⟩ = false := HOW.out.frozenAt j
  have HST : Hid (∀ y : Nat, (w2.setCell ⟨g, j, none⟩ (.int .u8 (y : Int))).ownsRow w1.heap.size 5 1 (.slice (some ⟨g, 0, none⟩) T T) T ((toI (cb.set j y)).map (Value.int .u8))) := by
    intro y
    have h1 := (HOW.out.stored j (.int .u8 (y : Int))).1
    rw [set_u8] at h1
    exact h1
  have HBS : Hid (∀ y : Value, Below w.heap.size w (w2.setCell ⟨g, j, none⟩ y)) := fun y => bel2.trans (((Ch.refl (fun q => q = g) w2).set ⟨g, j, none⟩ y rfl).below (fun q e => by have e' : q = g := e; have := HG.out; omega) bel2.size)
  have HTOLD : Hid (∀ s, s < 8 → (j = 0 → 4 ≤ s) → I4.pE (cb.set j (x ^^^ 2 ^ s)) ≠ 0) := by
    intro s h8 h4
    rw [HCB.out]
    exact bit_told h HM.out (by rw [← HCB.out]; exact H256.out) j s x (by rw [← HHD.out]; exact hjh) h8 (by rw [← HCB.out]; exact hx) h4
  have HXB : Hid (∀ s, s < 8 → x ^^^ 2 ^ s < 256) := fun s h8 => (xor_bit x hx2 s h8).2.1
  have hxx : ∀ m : Nat, m < 256 → bits .xor .u8 (x : Int) (m : Int) = ((x ^^^ m : Nat) : Int) := fun m hm => u8_xor_nat x m hx2 hm
  have x128 : bits .xor .u8 (x : Int) 128 = ((x ^^^ 2 ^ 7 : Nat) : Int) := hxx 128 (by decide)
  have x64 : bits .xor .u8 (x : Int) 64 = ((x ^^^ 2 ^ 6 : Nat) : Int) := hxx 64 (by decide)
  have x32 : bits .xor .u8 (x : Int) 32 = ((x ^^^ 2 ^ 5 : Nat) : Int) := hxx 32 (by decide)
  have x16 : bits .xor .u8 (x : Int) 16 = ((x ^^^ 2 ^ 4 : Nat) : Int) := hxx 16 (by decide)
  have x8 : bits .xor .u8 (x : Int) 8 = ((x ^^^ 2 ^ 3 : Nat) : Int) := hxx 8 (by decide)
  have x4 : bits .xor .u8 (x : Int) 4 = ((x ^^^ 2 ^ 2 : Nat) : Int) := hxx 4 (by decide)
  have x2 : bits .xor .u8 (x : Int) 2 = ((x ^^^ 2 ^ 1 : Nat) : Int) := hxx 2 (by decide)
  have x1 : bits .xor .u8 (x : Int) 1 = ((x ^^^ 2 ^ 0 : Nat) : Int) := hxx 1 (by decide)
  obtain ⟨y7, hy7⟩ : ∃ y, y = x ^^^ 2 ^ 7 := ⟨_, rfl⟩
  obtain ⟨y6, hy6⟩ : ∃ y, y = x ^^^ 2 ^ 6 := ⟨_, rfl⟩
  obtain ⟨y5, hy5⟩ : ∃ y, y = x ^^^ 2 ^ 5 := ⟨_, rfl⟩
  obtain ⟨y4, hy4⟩ : ∃ y, y = x ^^^ 2 ^ 4 := ⟨_, rfl⟩
  obtain ⟨y3, hy3⟩ : ∃ y, y = x ^^^ 2 ^ 3 := ⟨_, rfl⟩
  obtain ⟨y2, hy2⟩ : ∃ y, y = x ^^^ 2 ^ 2 := ⟨_, rfl⟩
  obtain ⟨y1, hy1⟩ : ∃ y, y = x ^^^ 2 ^ 1 := ⟨_, rfl⟩
  obtain ⟨y0, hy0⟩ : ∃ y, y = x ^^^ 2 ^ 0 := ⟨_, rfl⟩
  rw [← hy7] at x128
  rw [← hy6] at x64
  rw [← hy5] at x32
  rw [← hy4] at x16
  rw [← hy3] at x8
  rw [← hy2] at x4
  rw [← hy1] at x2
  rw [← hy0] at x1
  have HY7 : Hid (y7 < 256 ∧ I4.pE (cb.set j y7) ≠ 0) := by rw [hy7]; exact ⟨HXB.out 7 (by decide), HTOLD.out 7 (by decide) (fun _ => by decide)⟩
  have HY6 : Hid (y6 < 256 ∧ I4.pE (cb.set j y6) ≠ 0) := by rw [hy6]; exact ⟨HXB.out 6 (by decide), HTOLD.out 6 (by decide) (fun _ => by decide)⟩
  have HY5 : Hid (y5 < 256 ∧ I4.pE (cb.set j y5) ≠ 0) := by rw [hy5]; exact ⟨HXB.out 5 (by decide), HTOLD.out 5 (by decide) (fun _ => by decide)⟩
  have HY4 : Hid (y4 < 256 ∧ I4.pE (cb.set j y4) ≠ 0) := by rw [hy4]; exact ⟨HXB.out 4 (by decide), HTOLD.out 4 (by decide) (fun _ => by decide)⟩
  have HY3 : Hid (j ≠ 0 → y3 < 256 ∧ I4.pE (cb.set j y3) ≠ 0) := by intro hh; rw [hy3]; exact ⟨HXB.out 3 (by decide), HTOLD.out 3 (by decide) (fun e => absurd e hh)⟩
  have HY2 : Hid (j ≠ 0 → y2 < 256 ∧ I4.pE (cb.set j y2) ≠ 0) := by intro hh; rw [hy2]; exact ⟨HXB.out 2 (by decide), HTOLD.out 2 (by decide) (fun e => absurd e hh)⟩
  have HY1 : Hid (j ≠ 0 → y1 < 256 ∧ I4.pE (cb.set j y1) ≠ 0) := by intro hh; rw [hy1]; exact ⟨HXB.out 1 (by decide), HTOLD.out 1 (by decide) (fun e => absurd e hh)⟩
  have HY0 : Hid (j ≠ 0 → y0 < 256 ∧ I4.pE (cb.set j y0) ≠ 0) := by intro hh; rw [hy0]; exact ⟨HXB.out 0 (by decide), HTOLD.out 0 (by decide) (fun e => absurd e hh)⟩
  have HJ0 : Hid (j = 0 → r < 4) := hj0
  have HJR : Hid (A = ((8 * j + r : Nat) : Int)) := hjr
  have qa : A / 8 = (j : Int) := by omega
  have j0 : (0 : Int) ≤ (j : Int) := by omega
  have j1 : (j : Int) < (T : Int) := by omega
  have j2 : ((j : Int)).toNat = j := by omega
  clear hx hy7 hy6 hy5 hy4 hy3 hy2 hy1 hy0 hxx hj0 hjr hjh HTOLD HXB
  by_cases c4 : A < 4
  · have c5 : ¬ 4 ≤ A := by omega
    clear c3
    have hrr : r = 0 ∨ r = 1 ∨ r = 2 ∨ r = 3 ∨ r = 4 ∨ r = 5 ∨ r = 6 ∨ r = 7 := by omega
    rcases hrr with rfl | rfl | rfl | rfl | rfl | rfl | rfl | rfl
    · have qr : A % 8 = 0 := by have := HJR.out; omega
      go_wp2
      refine Mix.start (by kernel_rfl) ?_
      obtain ⟨wM, hwM⟩ : ∃ wM, wM = w2.drew := ⟨_, rfl⟩
      have cel' : wM.cell? ⟨g, j, none⟩ = some (.int .u8 (x : Int)) := by rw [hwM]; exact cel
      have frz' : wM.frozen? ⟨g, j, none⟩ = false := by rw [hwM]; exact frz
      have HSTM : Hid (∀ y : Nat, (wM.setCell ⟨g, j, none⟩ (.int .u8 (y : Int))).ownsRow w1.heap.size 5 1 (.slice (some ⟨g, 0, none⟩) T T) T ((toI (cb.set j y)).map (Value.int .u8))) := by
        intro y
        have h1 := ((owns_drew HOW.out).stored j (.int .u8 (y : Int))).1
        rw [set_u8] at h1
        rw [hwM]
        exact h1
      have HBSM : Hid (∀ y : Value, Below w.heap.size w (wM.setCell ⟨g, j, none⟩ y)) := fun y => by
        have b : Below w.heap.size w wM := by rw [hwM]; exact bel2.drew
        exact b.trans (((Ch.refl (fun q => q = g) wM).set ⟨g, j, none⟩ y rfl).below (fun q e => by have e' : q = g := e; have := HG.out; omega) b.size)
      rw [← hwM]
      clear hwM cel frz HST HBS
      refine Mix.take [true, true, true, true, true, true, true, false, true, true, true] 4 (by kernel_rfl) (by kernel_rfl) (by decide) (by kernel_rfl) (fun K hK => ?_)
      simp only [Mix.pick]
      repeat (go_big_quiet_step (fail))
      refine wpQuiet_nil (hK _ ?_)
      clear hK K
      refine Mix.one [false, false, false, false, false, false, false, true] 3 7 _ rfl rfl (by kernel_rfl) (by kernel_rfl) (fun K hK => ?_)
      simp only [Mix.pick]
      go_wp2
      refine ⟨rfl, hK _ _ ?_⟩
      clear hK K
      refine Mix.take [false, false, false, false, false, false, false, false, false, false, false, true, true] 1 (by kernel_rfl) (by kernel_rfl) (by decide) (by kernel_rfl) (fun K hK => ?_)
      simp only [Mix.pick]
      repeat (go_big_quiet_step (fail))
      refine wpQuiet_nil (hK _ ?_)
      clear hK K
      refine Mix.one [false, false, false, false, false, false, false, false, false, false, false, false, false, true] 0 13 _ rfl rfl (by kernel_rfl) (by kernel_rfl) (fun K hK => ?_)
      simp only [Mix.pick]
      go_wp2
      refine ⟨rfl, hK _ _ ?_⟩
      clear hK K
      refine Mix.done (by kernel_rfl) ?_
      have HP : Hid (y7 < 256 ∧ I4.pE (cb.set j y7) ≠ 0) := HY7.out
      have HSEG : Hid (Seg .u8 (wM.setCell ⟨g, j, none⟩ (.int .u8 (y7 : Int))) (some ⟨g, 0, none⟩) (toI (cb.set j y7))) := by
        obtain ⟨a', c', e1, hsg, _⟩ := owns_seg (HSTM.out y7)
        simp only [Value.slice.injEq, true_and] at e1
        rw [e1.1]; exact hsg
      have belM : Below w.heap.size w (wM.setCell ⟨g, j, none⟩ (.int .u8 (y7 : Int))) := HBSM.out _
      have H256' : Hid (∀ z ∈ cb.set j y7, z < 256) := by
        intro z hz
        rcases List.mem_or_eq_of_mem_set hz with hz | rfl
        · exact H256.out z hz
        · exact HP.out.1
      have QP : Hid _ := parse_two (some ⟨g, 0, none⟩) T T (cb.set j y7) _ (by rw [List.length_set]; exact HT.out) (HWID.out _ belM) HSEG.out H256'.out (Nat.le_refl _) (by omega)
      obtain ⟨E, hE⟩ : ∃ E, E = I4.pE (cb.set j y7) := ⟨_, rfl⟩
      rw [← hE] at QP HP
      have hE0 := HP.out.2
      have bE : ((E : Int) != 0) = true := by rw [bne_iff_ne]; omega
      obtain ⟨wS, hwS⟩ : ∃ wS, wS = wM.setCell ⟨g, j, none⟩ (.int .u8 (y7 : Int)) := ⟨_, rfl⟩
      rw [← hwS] at belM QP ⊢
      clear hwS hE cel' frz'
      go_wp2_with fail
      refine Calls.mono QP.out ?_
      rintro e w5 ⟨C5, rfl, hb5, hr5⟩
      rcases hr5 with ⟨_, rfl⟩ | ⟨h0, _⟩
      case inr => exact absurd h0 hE0
      have bel5 := bthen belM hb5
      clear hb5 QP belM hE0
      go_wp2_with (first | (refine wpList_alloc_h4 rfl rfl ?_) | (refine wpList_store_h4 (.tmp 9) (.tmp 65) rfl rfl w5.heap.size h4z h4z nilS nilS nilS nilS rfl rfl rfl rfl (h4At_new _ _ _ _) rfl ?_))
      intro w6 hP6 k6
      have bel6 := bthen bel5 (stored_below k6)
      clear hP6 k6 bel5
      go_wp2_with fail
      refine Calls.mono (num_any E w6) ?_
      rintro e w7 ⟨rfl, rfl⟩
      go_wp2
      go_ret
      exact ⟨rfl, bel6⟩
    · have qr : A % 8 = 1 := by have := HJR.out; omega
      go_wp2
      refine Mix.start (by kernel_rfl) ?_
      obtain ⟨wM, hwM⟩ : ∃ wM, wM = w2.drew := ⟨_, rfl⟩
      have cel' : wM.cell? ⟨g, j, none⟩ = some (.int .u8 (x : Int)) := by rw [hwM]; exact cel
      have frz' : wM.frozen? ⟨g, j, none⟩ = false := by rw [hwM]; exact frz
      have HSTM : Hid (∀ y : Nat, (wM.setCell ⟨g, j, none⟩ (.int .u8 (y : Int))).ownsRow w1.heap.size 5 1 (.slice (some ⟨g, 0, none⟩) T T) T ((toI (cb.set j y)).map (Value.int .u8))) := by
        intro y
        have h1 := ((owns_drew HOW.out).stored j (.int .u8 (y : Int))).1
        rw [set_u8] at h1
        rw [hwM]
        exact h1
      have HBSM : Hid (∀ y : Value, Below w.heap.size w (wM.setCell ⟨g, j, none⟩ y)) := fun y => by
        have b : Below w.heap.size w wM := by rw [hwM]; exact bel2.drew
        exact b.trans (((Ch.refl (fun q => q = g) wM).set ⟨g, j, none⟩ y rfl).below (fun q e => by have e' : q = g := e; have := HG.out; omega) b.size)
      rw [← hwM]
      clear hwM cel frz HST HBS
      refine Mix.take [true, true, true, true, true, true, true, false, true, true, true] 4 (by kernel_rfl) (by kernel_rfl) (by decide) (by kernel_rfl) (fun K hK => ?_)
      simp only [Mix.pick]
      repeat (go_big_quiet_step (fail))
      refine wpQuiet_nil (hK _ ?_)
      clear hK K
      refine Mix.one [false, false, false, false, false, false, false, true] 3 7 _ rfl rfl (by kernel_rfl) (by kernel_rfl) (fun K hK => ?_)
      simp only [Mix.pick]
      go_wp2
      refine ⟨rfl, hK _ _ ?_⟩
      clear hK K
      refine Mix.take [false, false, false, false, false, false, false, false, false, false, false, true, true] 1 (by kernel_rfl) (by kernel_rfl) (by decide) (by kernel_rfl) (fun K hK => ?_)
      simp only [Mix.pick]
      repeat (go_big_quiet_step (fail))
      refine wpQuiet_nil (hK _ ?_)
      clear hK K
      refine Mix.one [false, false, false, false, false, false, false, false, false, false, false, false, false, true] 0 13 _ rfl rfl (by kernel_rfl) (by kernel_rfl) (fun K hK => ?_)
      simp only [Mix.pick]
      go_wp2
      refine ⟨rfl, hK _ _ ?_⟩
      clear hK K
      refine Mix.done (by kernel_rfl) ?_
      have HP : Hid (y6 < 256 ∧ I4.pE (cb.set j y6) ≠ 0) := HY6.out
      have HSEG : Hid (Seg .u8 (wM.setCell ⟨g, j, none⟩ (.int .u8 (y6 : Int))) (some ⟨g, 0, none⟩) (toI (cb.set j y6))) := by
        obtain ⟨a', c', e1, hsg, _⟩ := owns_seg (HSTM.out y6)
        simp only [Value.slice.injEq, true_and] at e1
        rw [e1.1]; exact hsg
      have belM : Below w.heap.size w (wM.setCell ⟨g, j, none⟩ (.int .u8 (y6 : Int))) := HBSM.out _
      have H256' : Hid (∀ z ∈ cb.set j y6, z < 256) := by
        intro z hz
        rcases List.mem_or_eq_of_mem_set hz with hz | rfl
        · exact H256.out z hz
        · exact HP.out.1
      have QP : Hid _ := parse_two (some ⟨g, 0, none⟩) T T (cb.set j y6) _ (by rw [List.length_set]; exact HT.out) (HWID.out _ belM) HSEG.out H256'.out (Nat.le_refl _) (by omega)
      obtain ⟨E, hE⟩ : ∃ E, E = I4.pE (cb.set j y6) := ⟨_, rfl⟩
      rw [← hE] at QP HP
      have hE0 := HP.out.2
      have bE : ((E : Int) != 0) = true := by rw [bne_iff_ne]; omega
      obtain ⟨wS, hwS⟩ : ∃ wS, wS = wM.setCell ⟨g, j, none⟩ (.int .u8 (y6 : Int)) := ⟨_, rfl⟩
      rw [← hwS] at belM QP ⊢
      clear hwS hE cel' frz'
      go_wp2_with fail
      refine Calls.mono QP.out ?_
      rintro e w5 ⟨C5, rfl, hb5, hr5⟩
      rcases hr5 with ⟨_, rfl⟩ | ⟨h0, _⟩
      case inr => exact absurd h0 hE0
      have bel5 := bthen belM hb5
      clear hb5 QP belM hE0
      go_wp2_with (first | (refine wpList_alloc_h4 rfl rfl ?_) | (refine wpList_store_h4 (.tmp 9) (.tmp 65) rfl rfl w5.heap.size h4z h4z nilS nilS nilS nilS rfl rfl rfl rfl (h4At_new _ _ _ _) rfl ?_))
      intro w6 hP6 k6
      have bel6 := bthen bel5 (stored_below k6)
      clear hP6 k6 bel5
      go_wp2_with fail
      refine Calls.mono (num_any E w6) ?_
      rintro e w7 ⟨rfl, rfl⟩
      go_wp2
      go_ret
      exact ⟨rfl, bel6⟩
    · have qr : A % 8 = 2 := by have := HJR.out; omega
      go_wp2
      refine Mix.start (by kernel_rfl) ?_
      obtain ⟨wM, hwM⟩ : ∃ wM, wM = w2.drew := ⟨_, rfl⟩
      have cel' : wM.cell? ⟨g, j, none⟩ = some (.int .u8 (x : Int)) := by rw [hwM]; exact cel
      have frz' : wM.frozen? ⟨g, j, none⟩ = false := by rw [hwM]; exact frz
      have HSTM : Hid (∀ y : Nat, (wM.setCell ⟨g, j, none⟩ (.int .u8 (y : Int))).ownsRow w1.heap.size 5 1 (.slice (some ⟨g, 0, none⟩) T T) T ((toI (cb.set j y)).map (Value.int .u8))) := by
        intro y
        have h1 := ((owns_drew HOW.out).stored j (.int .u8 (y : Int))).1
        rw [set_u8] at h1
        rw [hwM]
        exact h1
      have HBSM : Hid (∀ y : Value, Below w.heap.size w (wM.setCell ⟨g, j, none⟩ y)) := fun y => by
        have b : Below w.heap.size w wM := by rw [hwM]; exact bel2.drew
        exact b.trans (((Ch.refl (fun q => q = g) wM).set ⟨g, j, none⟩ y rfl).below (fun q e => by have e' : q = g := e; have := HG.out; omega) b.size)
      rw [← hwM]
      clear hwM cel frz HST HBS
      refine Mix.take [true, true, true, true, true, true, true, false, true, true, true] 4 (by kernel_rfl) (by kernel_rfl) (by decide) (by kernel_rfl) (fun K hK => ?_)
      simp only [Mix.pick]
      repeat (go_big_quiet_step (fail))
      refine wpQuiet_nil (hK _ ?_)
      clear hK K
      refine Mix.one [false, false, false, false, false, false, false, true] 3 7 _ rfl rfl (by kernel_rfl) (by kernel_rfl) (fun K hK => ?_)
      simp only [Mix.pick]
      go_wp2
      refine ⟨rfl, hK _ _ ?_⟩
      clear hK K
      refine Mix.take [false, false, false, false, false, false, false, false, false, false, false, true, true] 1 (by kernel_rfl) (by kernel_rfl) (by decide) (by kernel_rfl) (fun K hK => ?_)
      simp only [Mix.pick]
      repeat (go_big_quiet_step (fail))
      refine wpQuiet_nil (hK _ ?_)
      clear hK K
      refine Mix.one [false, false, false, false, false, false, false, false, false, false, false, false, false, true] 0 13 _ rfl rfl (by kernel_rfl) (by kernel_rfl) (fun K hK => ?_)
      simp only [Mix.pick]
      go_wp2
      refine ⟨rfl, hK _ _ ?_⟩
      clear hK K
      refine Mix.done (by kernel_rfl) ?_
      have HP : Hid (y5 < 256 ∧ I4.pE (cb.set j y5) ≠ 0) := HY5.out
      have HSEG : Hid (Seg .u8 (wM.setCell ⟨g, j, none⟩ (.int .u8 (y5 : Int))) (some ⟨g, 0, none⟩) (toI (cb.set j y5))) := by
        obtain ⟨a', c', e1, hsg, _⟩ := owns_seg (HSTM.out y5)
        simp only [Value.slice.injEq, true_and] at e1
        rw [e1.1]; exact hsg
      have belM : Below w.heap.size w (wM.setCell ⟨g, j, none⟩ (.int .u8 (y5 : Int))) := HBSM.out _
      have H256' : Hid (∀ z ∈ cb.set j y5, z < 256) := by
        intro z hz
        rcases List.mem_or_eq_of_mem_set hz with hz | rfl
        · exact H256.out z hz
        · exact HP.out.1
      have QP : Hid _ := parse_two (some ⟨g, 0, none⟩) T T (cb.set j y5) _ (by rw [List.length_set]; exact HT.out) (HWID.out _ belM) HSEG.out H256'.out (Nat.le_refl _) (by omega)
      obtain ⟨E, hE⟩ : ∃ E, E = I4.pE (cb.set j y5) := ⟨_, rfl⟩
      rw [← hE] at QP HP
      have hE0 := HP.out.2
      have bE : ((E : Int) != 0) = true := by rw [bne_iff_ne]; omega
      obtain ⟨wS, hwS⟩ : ∃ wS, wS = wM.setCell ⟨g, j, none⟩ (.int .u8 (y5 : Int)) := ⟨_, rfl⟩
      rw [← hwS] at belM QP ⊢
      clear hwS hE cel' frz'
      go_wp2_with fail
      refine Calls.mono QP.out ?_
      rintro e w5 ⟨C5, rfl, hb5, hr5⟩
      rcases hr5 with ⟨_, rfl⟩ | ⟨h0, _⟩
      case inr => exact absurd h0 hE0
      have bel5 := bthen belM hb5
      clear hb5 QP belM hE0
      go_wp2_with (first | (refine wpList_alloc_h4 rfl rfl ?_) | (refine wpList_store_h4 (.tmp 9) (.tmp 65) rfl rfl w5.heap.size h4z h4z nilS nilS nilS nilS rfl rfl rfl rfl (h4At_new _ _ _ _) rfl ?_))
      intro w6 hP6 k6
      have bel6 := bthen bel5 (stored_below k6)
      clear hP6 k6 bel5
      go_wp2_with fail
      refine Calls.mono (num_any E w6) ?_
      rintro e w7 ⟨rfl, rfl⟩
      go_wp2
      go_ret
      exact ⟨rfl, bel6⟩
    · have qr : A % 8 = 3 := by have := HJR.out; omega
      go_wp2
      refine Mix.start (by kernel_rfl) ?_
      obtain ⟨wM, hwM⟩ : ∃ wM, wM = w2.drew := ⟨_, rfl⟩
      have cel' : wM.cell? ⟨g, j, none⟩ = some (.int .u8 (x : Int)) := by rw [hwM]; exact cel
      have frz' : wM.frozen? ⟨g, j, none⟩ = false := by rw [hwM]; exact frz
      have HSTM : Hid (∀ y : Nat, (wM.setCell ⟨g, j, none⟩ (.int .u8 (y : Int))).ownsRow w1.heap.size 5 1 (.slice (some ⟨g, 0, none⟩) T T) T ((toI (cb.set j y)).map (Value.int .u8))) := by
        intro y
        have h1 := ((owns_drew HOW.out).stored j (.int .u8 (y : Int))).1
        rw [set_u8] at h1
        rw [hwM]
        exact h1
      have HBSM : Hid (∀ y : Value, Below w.heap.size w (wM.setCell ⟨g, j, none⟩ y)) := fun y => by
        have b : Below w.heap.size w wM := by rw [hwM]; exact bel2.drew
        exact b.trans (((Ch.refl (fun q => q = g) wM).set ⟨g, j, none⟩ y rfl).below (fun q e => by have e' : q = g := e; have := HG.out; omega) b.size)
      rw [← hwM]
      clear hwM cel frz HST HBS
      refine Mix.take [true, true, true, true, true, true, true, false, true, true, true] 4 (by kernel_rfl) (by kernel_rfl) (by decide) (by kernel_rfl) (fun K hK => ?_)
      simp only [Mix.pick]
      repeat (go_big_quiet_step (fail))
      refine wpQuiet_nil (hK _ ?_)
      clear hK K
      refine Mix.one [false, false, false, false, false, false, false, true] 3 7 _ rfl rfl (by kernel_rfl) (by kernel_rfl) (fun K hK => ?_)
      simp only [Mix.pick]
      go_wp2
      refine ⟨rfl, hK _ _ ?_⟩
      clear hK K
      refine Mix.take [false, false, false, false, false, false, false, false, false, false, false, true, true] 1 (by kernel_rfl) (by kernel_rfl) (by decide) (by kernel_rfl) (fun K hK => ?_)
      simp only [Mix.pick]
      repeat (go_big_quiet_step (fail))
      refine wpQuiet_nil (hK _ ?_)
      clear hK K
      refine Mix.one [false, false, false, false, false, false, false, false, false, false, false, false, false, true] 0 13 _ rfl rfl (by kernel_rfl) (by kernel_rfl) (fun K hK => ?_)
      simp only [Mix.pick]
      go_wp2
      refine ⟨rfl, hK _ _ ?_⟩
      clear hK K
      refine Mix.done (by kernel_rfl) ?_
      have HP : Hid (y4 < 256 ∧ I4.pE (cb.set j y4) ≠ 0) := HY4.out
      have HSEG : Hid (Seg .u8 (wM.setCell ⟨g, j, none⟩ (.int .u8 (y4 : Int))) (some ⟨g, 0, none⟩) (toI (cb.set j y4))) := by
        obtain ⟨a', c', e1, hsg, _⟩ := owns_seg (HSTM.out y4)
        simp only [Value.slice.injEq, true_and] at e1
        rw [e1.1]; exact hsg
      have belM : Below w.heap.size w (wM.setCell ⟨g, j, none⟩ (.int .u8 (y4 : Int))) := HBSM.out _
      have H256' : Hid (∀ z ∈ cb.set j y4, z < 256) := by
        intro z hz
        rcases List.mem_or_eq_of_mem_set hz with hz | rfl
        · exact H256.out z hz
        · exact HP.out.1
      have QP : Hid _ := parse_two (some ⟨g, 0, none⟩) T T (cb.set j y4) _ (by rw [List.length_set]; exact HT.out) (HWID.out _ belM) HSEG.out H256'.out (Nat.le_refl _) (by omega)
      obtain ⟨E, hE⟩ : ∃ E, E = I4.pE (cb.set j y4) := ⟨_, rfl⟩
      rw [← hE] at QP HP
      have hE0 := HP.out.2
      have bE : ((E : Int) != 0) = true := by rw [bne_iff_ne]; omega
      obtain ⟨wS, hwS⟩ : ∃ wS, wS = wM.setCell ⟨g, j, none⟩ (.int .u8 (y4 : Int)) := ⟨_, rfl⟩
      rw [← hwS] at belM QP ⊢
      clear hwS hE cel' frz'
      go_wp2_with fail
      refine Calls.mono QP.out ?_
      rintro e w5 ⟨C5, rfl, hb5, hr5⟩
      rcases hr5 with ⟨_, rfl⟩ | ⟨h0, _⟩
      case inr => exact absurd h0 hE0
      have bel5 := bthen belM hb5
      clear hb5 QP belM hE0
      go_wp2_with (first | (refine wpList_alloc_h4 rfl rfl ?_) | (refine wpList_store_h4 (.tmp 9) (.tmp 65) rfl rfl w5.heap.size h4z h4z nilS nilS nilS nilS rfl rfl rfl rfl (h4At_new _ _ _ _) rfl ?_))
      intro w6 hP6 k6
      have bel6 := bthen bel5 (stored_below k6)
      clear hP6 k6 bel5
      go_wp2_with fail
      refine Calls.mono (num_any E w6) ?_
      rintro e w7 ⟨rfl, rfl⟩
      go_wp2
      go_ret
      exact ⟨rfl, bel6⟩
    · have := HJR.out; omega
    · have := HJR.out; omega
    · have := HJR.out; omega
    · have := HJR.out; omega
  · have c5 : 4 ≤ A := by omega
    have c6 : ¬ A < 8 := by omega
    clear c3
    have hrr : r = 0 ∨ r = 1 ∨ r = 2 ∨ r = 3 ∨ r = 4 ∨ r = 5 ∨ r = 6 ∨ r = 7 := by omega
    rcases hrr with rfl | rfl | rfl | rfl | rfl | rfl | rfl | rfl
    · have qr : A % 8 = 0 := by have := HJR.out; omega
      go_wp2
      refine Mix.start (by kernel_rfl) ?_
      obtain ⟨wM, hwM⟩ : ∃ wM, wM = w2.drew := ⟨_, rfl⟩
      have cel' : wM.cell? ⟨g, j, none⟩ = some (.int .u8 (x : Int)) := by rw [hwM]; exact cel
      have frz' : wM.frozen? ⟨g, j, none⟩ = false := by rw [hwM]; exact frz
      have HSTM : Hid (∀ y : Nat, (wM.setCell ⟨g, j, none⟩ (.int .u8 (y : Int))).ownsRow w1.heap.size 5 1 (.slice (some ⟨g, 0, none⟩) T T) T ((toI (cb.set j y)).map (Value.int .u8))) := by
        intro y
        have h1 := ((owns_drew HOW.out).stored j (.int .u8 (y : Int))).1
        rw [set_u8] at h1
        rw [hwM]
        exact h1
      have HBSM : Hid (∀ y : Value, Below w.heap.size w (wM.setCell ⟨g, j, none⟩ y)) := fun y => by
        have b : Below w.heap.size w wM := by rw [hwM]; exact bel2.drew
        exact b.trans (((Ch.refl (fun q => q = g) wM).set ⟨g, j, none⟩ y rfl).below (fun q e => by have e' : q = g := e; have := HG.out; omega) b.size)
      rw [← hwM]
      clear hwM cel frz HST HBS
      refine Mix.take [true, true, true, true, true, true, true, false, true, true, true] 4 (by kernel_rfl) (by kernel_rfl) (by decide) (by kernel_rfl) (fun K hK => ?_)
      simp only [Mix.pick]
      repeat (go_big_quiet_step (fail))
      refine wpQuiet_nil (hK _ ?_)
      clear hK K
      refine Mix.one [false, false, false, false, false, false, false, true] 3 7 _ rfl rfl (by kernel_rfl) (by kernel_rfl) (fun K hK => ?_)
      simp only [Mix.pick]
      go_wp2
      refine ⟨rfl, hK _ _ ?_⟩
      clear hK K
      refine Mix.take [false, false, false, false, false, false, false, false, false, false, false, true, true] 1 (by kernel_rfl) (by kernel_rfl) (by decide) (by kernel_rfl) (fun K hK => ?_)
      simp only [Mix.pick]
      repeat (go_big_quiet_step (fail))
      refine wpQuiet_nil (hK _ ?_)
      clear hK K
      refine Mix.one [false, false, false, false, false, false, false, false, false, false, false, false, false, true] 0 13 _ rfl rfl (by kernel_rfl) (by kernel_rfl) (fun K hK => ?_)
      simp only [Mix.pick]
      go_wp2
      refine ⟨rfl, hK _ _ ?_⟩
      clear hK K
      refine Mix.done (by kernel_rfl) ?_
      have HP : Hid (y7 < 256 ∧ I4.pE (cb.set j y7) ≠ 0) := HY7.out
      have HSEG : Hid (Seg .u8 (wM.setCell ⟨g, j, none⟩ (.int .u8 (y7 : Int))) (some ⟨g, 0, none⟩) (toI (cb.set j y7))) := by
        obtain ⟨a', c', e1, hsg, _⟩ := owns_seg (HSTM.out y7)
        simp only [Value.slice.injEq, true_and] at e1
        rw [e1.1]; exact hsg
      have belM : Below w.heap.size w (wM.setCell ⟨g, j, none⟩ (.int .u8 (y7 : Int))) := HBSM.out _
      have H256' : Hid (∀ z ∈ cb.set j y7, z < 256) := by
        intro z hz
        rcases List.mem_or_eq_of_mem_set hz with hz | rfl
        · exact H256.out z hz
        · exact HP.out.1
      have QP : Hid _ := parse_two (some ⟨g, 0, none⟩) T T (cb.set j y7) _ (by rw [List.length_set]; exact HT.out) (HWID.out _ belM) HSEG.out H256'.out (Nat.le_refl _) (by omega)
      obtain ⟨E, hE⟩ : ∃ E, E = I4.pE (cb.set j y7) := ⟨_, rfl⟩
      rw [← hE] at QP HP
      have hE0 := HP.out.2
      have bE : ((E : Int) != 0) = true := by rw [bne_iff_ne]; omega
      obtain ⟨wS, hwS⟩ : ∃ wS, wS = wM.setCell ⟨g, j, none⟩ (.int .u8 (y7 : Int)) := ⟨_, rfl⟩
      rw [← hwS] at belM QP ⊢
      clear hwS hE cel' frz'
      go_wp2_with fail
      refine Calls.mono QP.out ?_
      rintro e w5 ⟨C5, rfl, hb5, hr5⟩
      rcases hr5 with ⟨_, rfl⟩ | ⟨h0, _⟩
      case inr => exact absurd h0 hE0
      have bel5 := bthen belM hb5
      clear hb5 QP belM hE0
      go_wp2_with (first | (refine wpList_alloc_h4 rfl rfl ?_) | (refine wpList_store_h4 (.tmp 9) (.tmp 65) rfl rfl w5.heap.size h4z h4z nilS nilS nilS nilS rfl rfl rfl rfl (h4At_new _ _ _ _) rfl ?_))
      intro w6 hP6 k6
      have bel6 := bthen bel5 (stored_below k6)
      clear hP6 k6 bel5
      go_wp2_with fail
      refine Calls.mono (num_any E w6) ?_
      rintro e w7 ⟨rfl, rfl⟩
      go_wp2
      go_ret
      exact ⟨rfl, bel6⟩
    · have qr : A % 8 = 1 := by have := HJR.out; omega
      go_wp2
      refine Mix.start (by kernel_rfl) ?_
      obtain ⟨wM, hwM⟩ : ∃ wM, wM = w2.drew := ⟨_, rfl⟩
      have cel' : wM.cell? ⟨g, j, none⟩ = some (.int .u8 (x : Int)) := by rw [hwM]; exact cel
      have frz' : wM.frozen? ⟨g, j, none⟩ = false := by rw [hwM]; exact frz
      have HSTM : Hid (∀ y : Nat, (wM.setCell ⟨g, j, none⟩ (.int .u8 (y : Int))).ownsRow w1.heap.size 5 1 (.slice (some ⟨g, 0, none⟩) T T) T ((toI (cb.set j y)).map (Value.int .u8))) := by
        intro y
        have h1 := ((owns_drew HOW.out).stored j (.int .u8 (y : Int))).1
        rw [set_u8] at h1
        rw [hwM]
        exact h1
      have HBSM : Hid (∀ y : Value, Below w.heap.size w (wM.setCell ⟨g, j, none⟩ y)) := fun y => by
        have b : Below w.heap.size w wM := by rw [hwM]; exact bel2.drew
        exact b.trans (((Ch.refl (fun q => q = g) wM).set ⟨g, j, none⟩ y rfl).below (fun q e => by have e' : q = g := e; have := HG.out; omega) b.size)
      rw [← hwM]
      clear hwM cel frz HST HBS
      refine Mix.take [true, true, true, true, true, true, true, false, true, true, true] 4 (by kernel_rfl) (by kernel_rfl) (by decide) (by kernel_rfl) (fun K hK => ?_)
      simp only [Mix.pick]
      repeat (go_big_quiet_step (fail))
      refine wpQuiet_nil (hK _ ?_)
      clear hK K
      refine Mix.one [false, false, false, false, false, false, false, true] 3 7 _ rfl rfl (by kernel_rfl) (by kernel_rfl) (fun K hK => ?_)
      simp only [Mix.pick]
      go_wp2
      refine ⟨rfl, hK _ _ ?_⟩
      clear hK K
      refine Mix.take [false, false, false, false, false, false, false, false, false, false, false, true, true] 1 (by kernel_rfl) (by kernel_rfl) (by decide) (by kernel_rfl) (fun K hK => ?_)
      simp only [Mix.pick]
      repeat (go_big_quiet_step (fail))
      refine wpQuiet_nil (hK _ ?_)
      clear hK K
      refine Mix.one [false, false, false, false, false, false, false, false, false, false, false, false, false, true] 0 13 _ rfl rfl (by kernel_rfl) (by kernel_rfl) (fun K hK => ?_)
      simp only [Mix.pick]
      go_wp2
      refine ⟨rfl, hK _ _ ?_⟩
      clear hK K
      refine Mix.done (by kernel_rfl) ?_
      have HP : Hid (y6 < 256 ∧ I4.pE (cb.set j y6) ≠ 0) := HY6.out
      have HSEG : Hid (Seg .u8 (wM.setCell ⟨g, j, none⟩ (.int .u8 (y6 : Int))) (some ⟨g, 0, none⟩) (toI (cb.set j y6))) := by
        obtain ⟨a', c', e1, hsg, _⟩ := owns_seg (HSTM.out y6)
        simp only [Value.slice.injEq, true_and] at e1
        rw [e1.1]; exact hsg
      have belM : Below w.heap.size w (wM.setCell ⟨g, j, none⟩ (.int .u8 (y6 : Int))) := HBSM.out _
      have H256' : Hid (∀ z ∈ cb.set j y6, z < 256) := by
        intro z hz
        rcases List.mem_or_eq_of_mem_set hz with hz | rfl
        · exact H256.out z hz
        · exact HP.out.1
      have QP : Hid _ := parse_two (some ⟨g, 0, none⟩) T T (cb.set j y6) _ (by rw [List.length_set]; exact HT.out) (HWID.out _ belM) HSEG.out H256'.out (Nat.le_refl _) (by omega)
      obtain ⟨E, hE⟩ : ∃ E, E = I4.pE (cb.set j y6) := ⟨_, rfl⟩
      rw [← hE] at QP HP
      have hE0 := HP.out.2
      have bE : ((E : Int) != 0) = true := by rw [bne_iff_ne]; omega
      obtain ⟨wS, hwS⟩ : ∃ wS, wS = wM.setCell ⟨g, j, none⟩ (.int .u8 (y6 : Int)) := ⟨_, rfl⟩
      rw [← hwS] at belM QP ⊢
      clear hwS hE cel' frz'
      go_wp2_with fail
      refine Calls.mono QP.out ?_
      rintro e w5 ⟨C5, rfl, hb5, hr5⟩
      rcases hr5 with ⟨_, rfl⟩ | ⟨h0, _⟩
      case inr => exact absurd h0 hE0
      have bel5 := bthen belM hb5
      clear hb5 QP belM hE0
      go_wp2_with (first | (refine wpList_alloc_h4 rfl rfl ?_) | (refine wpList_store_h4 (.tmp 9) (.tmp 65) rfl rfl w5.heap.size h4z h4z nilS nilS nilS nilS rfl rfl rfl rfl (h4At_new _ _ _ _) rfl ?_))
      intro w6 hP6 k6
      have bel6 := bthen bel5 (stored_below k6)
      clear hP6 k6 bel5
      go_wp2_with fail
      refine Calls.mono (num_any E w6) ?_
      rintro e w7 ⟨rfl, rfl⟩
      go_wp2
      go_ret
      exact ⟨rfl, bel6⟩
    · have qr : A % 8 = 2 := by have := HJR.out; omega
      go_wp2
      refine Mix.start (by kernel_rfl) ?_
      obtain ⟨wM, hwM⟩ : ∃ wM, wM = w2.drew := ⟨_, rfl⟩
      have cel' : wM.cell? ⟨g, j, none⟩ = some (.int .u8 (x : Int)) := by rw [hwM]; exact cel
      have frz' : wM.frozen? ⟨g, j, none⟩ = false := by rw [hwM]; exact frz
      have HSTM : Hid (∀ y : Nat, (wM.setCell ⟨g, j, none⟩ (.int .u8 (y : Int))).ownsRow w1.heap.size 5 1 (.slice (some ⟨g, 0, none⟩) T T) T ((toI (cb.set j y)).map (Value.int .u8))) := by
        intro y
        have h1 := ((owns_drew HOW.out).stored j (.int .u8 (y : Int))).1
        rw [set_u8] at h1
        rw [hwM]
        exact h1
      have HBSM : Hid (∀ y : Value, Below w.heap.size w (wM.setCell ⟨g, j, none⟩ y)) := fun y => by
        have b : Below w.heap.size w wM := by rw [hwM]; exact bel2.drew
        exact b.trans (((Ch.refl (fun q => q = g) wM).set ⟨g, j, none⟩ y rfl).below (fun q e => by have e' : q = g := e; have := HG.out; omega) b.size)
      rw [← hwM]
      clear hwM cel frz HST HBS
      refine Mix.take [true, true, true, true, true, true, true, false, true, true, true] 4 (by kernel_rfl) (by kernel_rfl) (by decide) (by kernel_rfl) (fun K hK => ?_)
      simp only [Mix.pick]
      repeat (go_big_quiet_step (fail))
      refine wpQuiet_nil (hK _ ?_)
      clear hK K
      refine Mix.one [false, false, false, false, false, false, false, true] 3 7 _ rfl rfl (by kernel_rfl) (by kernel_rfl) (fun K hK => ?_)
      simp only [Mix.pick]
      go_wp2
      refine ⟨rfl, hK _ _ ?_⟩
      clear hK K
      refine Mix.take [false, false, false, false, false, false, false, false, false, false, false, true, true] 1 (by kernel_rfl) (by kernel_rfl) (by decide) (by kernel_rfl) (fun K hK => ?_)
      simp only [Mix.pick]
      repeat (go_big_quiet_step (fail))
      refine wpQuiet_nil (hK _ ?_)
      clear hK K
      refine Mix.one [false, false, false, false, false, false, false, false, false, false, false, false, false, true] 0 13 _ rfl rfl (by kernel_rfl) (by kernel_rfl) (fun K hK => ?_)
      simp only [Mix.pick]
      go_wp2
      refine ⟨rfl, hK _ _ ?_⟩
      clear hK K
      refine Mix.done (by kernel_rfl) ?_
      have HP : Hid (y5 < 256 ∧ I4.pE (cb.set j y5) ≠ 0) := HY5.out
      have HSEG : Hid (Seg .u8 (wM.setCell ⟨g, j, none⟩ (.int .u8 (y5 : Int))) (some ⟨g, 0, none⟩) (toI (cb.set j y5))) := by
        obtain ⟨a', c', e1, hsg, _⟩ := owns_seg (HSTM.out y5)
        simp only [Value.slice.injEq, true_and] at e1
        rw [e1.1]; exact hsg
      have belM : Below w.heap.size w (wM.setCell ⟨g, j, none⟩ (.int .u8 (y5 : Int))) := HBSM.out _
      have H256' : Hid (∀ z ∈ cb.set j y5, z < 256) := by
        intro z hz
        rcases List.mem_or_eq_of_mem_set hz with hz | rfl
        · exact H256.out z hz
        · exact HP.out.1
      have QP : Hid _ := parse_two (some ⟨g, 0, none⟩) T T (cb.set j y5) _ (by rw [List.length_set]; exact HT.out) (HWID.out _ belM) HSEG.out H256'.out (Nat.le_refl _) (by omega)
      obtain ⟨E, hE⟩ : ∃ E, E = I4.pE (cb.set j y5) := ⟨_, rfl⟩
      rw [← hE] at QP HP
      have hE0 := HP.out.2
      have bE : ((E : Int) != 0) = true := by rw [bne_iff_ne]; omega
      obtain ⟨wS, hwS⟩ : ∃ wS, wS = wM.setCell ⟨g, j, none⟩ (.int .u8 (y5 : Int)) := ⟨_, rfl⟩
      rw [← hwS] at belM QP ⊢
      clear hwS hE cel' frz'
      go_wp2_with fail
      refine Calls.mono QP.out ?_
      rintro e w5 ⟨C5, rfl, hb5, hr5⟩
      rcases hr5 with ⟨_, rfl⟩ | ⟨h0, _⟩
      case inr => exact absurd h0 hE0
      have bel5 := bthen belM hb5
      clear hb5 QP belM hE0
      go_wp2_with (first | (refine wpList_alloc_h4 rfl rfl ?_) | (refine wpList_store_h4 (.tmp 9) (.tmp 65) rfl rfl w5.heap.size h4z h4z nilS nilS nilS nilS rfl rfl rfl rfl (h4At_new _ _ _ _) rfl ?_))
      intro w6 hP6 k6
      have bel6 := bthen bel5 (stored_below k6)
      clear hP6 k6 bel5
      go_wp2_with fail
      refine Calls.mono (num_any E w6) ?_
      rintro e w7 ⟨rfl, rfl⟩
      go_wp2
      go_ret
      exact ⟨rfl, bel6⟩
    · have qr : A % 8 = 3 := by have := HJR.out; omega
      go_wp2
      refine Mix.start (by kernel_rfl) ?_
      obtain ⟨wM, hwM⟩ : ∃ wM, wM = w2.drew := ⟨_, rfl⟩
      have cel' : wM.cell? ⟨g, j, none⟩ = some (.int .u8 (x : Int)) := by rw [hwM]; exact cel
      have frz' : wM.frozen? ⟨g, j, none⟩ = false := by rw [hwM]; exact frz
      have HSTM : Hid (∀ y : Nat, (wM.setCell ⟨g, j, none⟩ (.int .u8 (y : Int))).ownsRow w1.heap.size 5 1 (.slice (some ⟨g, 0, none⟩) T T) T ((toI (cb.set j y)).map (Value.int .u8))) := by
        intro y
        have h1 := ((owns_drew HOW.out).stored j (.int .u8 (y : Int))).1
        rw [set_u8] at h1
        rw [hwM]
        exact h1
      have HBSM : Hid (∀ y : Value, Below w.heap.size w (wM.setCell ⟨g, j, none⟩ y)) := fun y => by
        have b : Below w.heap.size w wM := by rw [hwM]; exact bel2.drew
        exact b.trans (((Ch.refl (fun q => q = g) wM).set ⟨g, j, none⟩ y rfl).below (fun q e => by have e' : q = g := e; have := HG.out; omega) b.size)
      rw [← hwM]
      clear hwM cel frz HST HBS
      refine Mix.take [true, true, true, true, true, true, true, false, true, true, true] 4 (by kernel_rfl) (by kernel_rfl) (by decide) (by kernel_rfl) (fun K hK => ?_)
      simp only [Mix.pick]
      repeat (go_big_quiet_step (fail))
      refine wpQuiet_nil (hK _ ?_)
      clear hK K
      refine Mix.one [false, false, false, false, false, false, false, true] 3 7 _ rfl rfl (by kernel_rfl) (by kernel_rfl) (fun K hK => ?_)
      simp only [Mix.pick]
      go_wp2
      refine ⟨rfl, hK _ _ ?_⟩
      clear hK K
      refine Mix.take [false, false, false, false, false, false, false, false, false, false, false, true, true] 1 (by kernel_rfl) (by kernel_rfl) (by decide) (by kernel_rfl) (fun K hK => ?_)
      simp only [Mix.pick]
      repeat (go_big_quiet_step (fail))
      refine wpQuiet_nil (hK _ ?_)
      clear hK K
      refine Mix.one [false, false, false, false, false, false, false, false, false, false, false, false, false, true] 0 13 _ rfl rfl (by kernel_rfl) (by kernel_rfl) (fun K hK => ?_)
      simp only [Mix.pick]
      go_wp2
      refine ⟨rfl, hK _ _ ?_⟩
      clear hK K
      refine Mix.done (by kernel_rfl) ?_
      have HP : Hid (y4 < 256 ∧ I4.pE (cb.set j y4) ≠ 0) := HY4.out
      have HSEG : Hid (Seg .u8 (wM.setCell ⟨g, j, none⟩ (.int .u8 (y4 : Int))) (some ⟨g, 0, none⟩) (toI (cb.set j y4))) := by
        obtain ⟨a', c', e1, hsg, _⟩ := owns_seg (HSTM.out y4)
        simp only [Value.slice.injEq, true_and] at e1
        rw [e1.1]; exact hsg
      have belM : Below w.heap.size w (wM.setCell ⟨g, j, none⟩ (.int .u8 (y4 : Int))) := HBSM.out _
      have H256' : Hid (∀ z ∈ cb.set j y4, z < 256) := by
        intro z hz
        rcases List.mem_or_eq_of_mem_set hz with hz | rfl
        · exact H256.out z hz
        · exact HP.out.1
      have QP : Hid _ := parse_two (some ⟨g, 0, none⟩) T T (cb.set j y4) _ (by rw [List.length_set]; exact HT.out) (HWID.out _ belM) HSEG.out H256'.out (Nat.le_refl _) (by omega)
      obtain ⟨E, hE⟩ : ∃ E, E = I4.pE (cb.set j y4) := ⟨_, rfl⟩
      rw [← hE] at QP HP
      have hE0 := HP.out.2
      have bE : ((E : Int) != 0) = true := by rw [bne_iff_ne]; omega
      obtain ⟨wS, hwS⟩ : ∃ wS, wS = wM.setCell ⟨g, j, none⟩ (.int .u8 (y4 : Int)) := ⟨_, rfl⟩
      rw [← hwS] at belM QP ⊢
      clear hwS hE cel' frz'
      go_wp2_with fail
      refine Calls.mono QP.out ?_
      rintro e w5 ⟨C5, rfl, hb5, hr5⟩
      rcases hr5 with ⟨_, rfl⟩ | ⟨h0, _⟩
      case inr => exact absurd h0 hE0
      have bel5 := bthen belM hb5
      clear hb5 QP belM hE0
      go_wp2_with (first | (refine wpList_alloc_h4 rfl rfl ?_) | (refine wpList_store_h4 (.tmp 9) (.tmp 65) rfl rfl w5.heap.size h4z h4z nilS nilS nilS nilS rfl rfl rfl rfl (h4At_new _ _ _ _) rfl ?_))
      intro w6 hP6 k6
      have bel6 := bthen bel5 (stored_below k6)
      clear hP6 k6 bel5
      go_wp2_with fail
      refine Calls.mono (num_any E w6) ?_
      rintro e w7 ⟨rfl, rfl⟩
      go_wp2
      go_ret
      exact ⟨rfl, bel6⟩
    · have qr : A % 8 = 4 := by have := HJR.out; omega
      go_wp2
      refine Mix.start (by kernel_rfl) ?_
      obtain ⟨wM, hwM⟩ : ∃ wM, wM = w2.drew := ⟨_, rfl⟩
      have cel' : wM.cell? ⟨g, j, none⟩ = some (.int .u8 (x : Int)) := by rw [hwM]; exact cel
      have frz' : wM.frozen? ⟨g, j, none⟩ = false := by rw [hwM]; exact frz
      have HSTM : Hid (∀ y : Nat, (wM.setCell ⟨g, j, none⟩ (.int .u8 (y : Int))).ownsRow w1.heap.size 5 1 (.slice (some ⟨g, 0, none⟩) T T) T ((toI (cb.set j y)).map (Value.int .u8))) := by
        intro y
        have h1 := ((owns_drew HOW.out).stored j (.int .u8 (y : Int))).1
        rw [set_u8] at h1
        rw [hwM]
        exact h1
      have HBSM : Hid (∀ y : Value, Below w.heap.size w (wM.setCell ⟨g, j, none⟩ y)) := fun y => by
        have b : Below w.heap.size w wM := by rw [hwM]; exact bel2.drew
        exact b.trans (((Ch.refl (fun q => q = g) wM).set ⟨g, j, none⟩ y rfl).below (fun q e => by have e' : q = g := e; have := HG.out; omega) b.size)
      rw [← hwM]
      clear hwM cel frz HST HBS
      refine Mix.take [true, true, true, true, true, true, true, false, true, true, true] 4 (by kernel_rfl) (by kernel_rfl) (by decide) (by kernel_rfl) (fun K hK => ?_)
      simp only [Mix.pick]
      repeat (go_big_quiet_step (fail))
      refine wpQuiet_nil (hK _ ?_)
      clear hK K
      refine Mix.one [false, false, false, false, false, false, false, true] 3 7 _ rfl rfl (by kernel_rfl) (by kernel_rfl) (fun K hK => ?_)
      simp only [Mix.pick]
      go_wp2
      refine ⟨rfl, hK _ _ ?_⟩
      clear hK K
      refine Mix.take [false, false, false, false, false, false, false, false, false, false, false, true, true] 1 (by kernel_rfl) (by kernel_rfl) (by decide) (by kernel_rfl) (fun K hK => ?_)
      simp only [Mix.pick]
      repeat (go_big_quiet_step (fail))
      refine wpQuiet_nil (hK _ ?_)
      clear hK K
      refine Mix.one [false, false, false, false, false, false, false, false, false, false, false, false, false, true] 0 13 _ rfl rfl (by kernel_rfl) (by kernel_rfl) (fun K hK => ?_)
      simp only [Mix.pick]
      go_wp2
      refine ⟨rfl, hK _ _ ?_⟩
      clear hK K
      refine Mix.done (by kernel_rfl) ?_
      have HP : Hid (y3 < 256 ∧ I4.pE (cb.set j y3) ≠ 0) := HY3.out (by have := HJ0.out; have := HJR.out; intro e; rw [e] at this; omega)
      have HSEG : Hid (Seg .u8 (wM.setCell ⟨g, j, none⟩ (.int .u8 (y3 : Int))) (some ⟨g, 0, none⟩) (toI (cb.set j y3))) := by
        obtain ⟨a', c', e1, hsg, _⟩ := owns_seg (HSTM.out y3)
        simp only [Value.slice.injEq, true_and] at e1
        rw [e1.1]; exact hsg
      have belM : Below w.heap.size w (wM.setCell ⟨g, j, none⟩ (.int .u8 (y3 : Int))) := HBSM.out _
      have H256' : Hid (∀ z ∈ cb.set j y3, z < 256) := by
        intro z hz
        rcases List.mem_or_eq_of_mem_set hz with hz | rfl
        · exact H256.out z hz
        · exact HP.out.1
      have QP : Hid _ := parse_two (some ⟨g, 0, none⟩) T T (cb.set j y3) _ (by rw [List.length_set]; exact HT.out) (HWID.out _ belM) HSEG.out H256'.out (Nat.le_refl _) (by omega)
      obtain ⟨E, hE⟩ : ∃ E, E = I4.pE (cb.set j y3) := ⟨_, rfl⟩
      rw [← hE] at QP HP
      have hE0 := HP.out.2
      have bE : ((E : Int) != 0) = true := by rw [bne_iff_ne]; omega
      obtain ⟨wS, hwS⟩ : ∃ wS, wS = wM.setCell ⟨g, j, none⟩ (.int .u8 (y3 : Int)) := ⟨_, rfl⟩
      rw [← hwS] at belM QP ⊢
      clear hwS hE cel' frz'
      go_wp2_with fail
      refine Calls.mono QP.out ?_
      rintro e w5 ⟨C5, rfl, hb5, hr5⟩
      rcases hr5 with ⟨_, rfl⟩ | ⟨h0, _⟩
      case inr => exact absurd h0 hE0
      have bel5 := bthen belM hb5
      clear hb5 QP belM hE0
      go_wp2_with (first | (refine wpList_alloc_h4 rfl rfl ?_) | (refine wpList_store_h4 (.tmp 9) (.tmp 65) rfl rfl w5.heap.size h4z h4z nilS nilS nilS nilS rfl rfl rfl rfl (h4At_new _ _ _ _) rfl ?_))
      intro w6 hP6 k6
      have bel6 := bthen bel5 (stored_below k6)
      clear hP6 k6 bel5
      go_wp2_with fail
      refine Calls.mono (num_any E w6) ?_
      rintro e w7 ⟨rfl, rfl⟩
      go_wp2
      go_ret
      exact ⟨rfl, bel6⟩
    · have qr : A % 8 = 5 := by have := HJR.out; omega
      go_wp2
      refine Mix.start (by kernel_rfl) ?_
      obtain ⟨wM, hwM⟩ : ∃ wM, wM = w2.drew := ⟨_, rfl⟩
      have cel' : wM.cell? ⟨g, j, none⟩ = some (.int .u8 (x : Int)) := by rw [hwM]; exact cel
      have frz' : wM.frozen? ⟨g, j, none⟩ = false := by rw [hwM]; exact frz
      have HSTM : Hid (∀ y : Nat, (wM.setCell ⟨g, j, none⟩ (.int .u8 (y : Int))).ownsRow w1.heap.size 5 1 (.slice (some ⟨g, 0, none⟩) T T) T ((toI (cb.set j y)).map (Value.int .u8))) := by
        intro y
        have h1 := ((owns_drew HOW.out).stored j (.int .u8 (y : Int))).1
        rw [set_u8] at h1
        rw [hwM]
        exact h1
      have HBSM : Hid (∀ y : Value, Below w.heap.size w (wM.setCell ⟨g, j, none⟩ y)) := fun y => by
        have b : Below w.heap.size w wM := by rw [hwM]; exact bel2.drew
        exact b.trans (((Ch.refl (fun q => q = g) wM).set ⟨g, j, none⟩ y rfl).below (fun q e => by have e' : q = g := e; have := HG.out; omega) b.size)
      rw [← hwM]
      clear hwM cel frz HST HBS
      refine Mix.take [true, true, true, true, true, true, true, false, true, true, true] 4 (by kernel_rfl) (by kernel_rfl) (by decide) (by kernel_rfl) (fun K hK => ?_)
      simp only [Mix.pick]
      repeat (go_big_quiet_step (fail))
      refine wpQuiet_nil (hK _ ?_)
      clear hK K
      refine Mix.one [false, false, false, false, false, false, false, true] 3 7 _ rfl rfl (by kernel_rfl) (by kernel_rfl) (fun K hK => ?_)
      simp only [Mix.pick]
      go_wp2
      refine ⟨rfl, hK _ _ ?_⟩
      clear hK K
      refine Mix.take [false, false, false, false, false, false, false, false, false, false, false, true, true] 1 (by kernel_rfl) (by kernel_rfl) (by decide) (by kernel_rfl) (fun K hK => ?_)
      simp only [Mix.pick]
      repeat (go_big_quiet_step (fail))
      refine wpQuiet_nil (hK _ ?_)
      clear hK K
      refine Mix.one [false, false, false, false, false, false, false, false, false, false, false, false, false, true] 0 13 _ rfl rfl (by kernel_rfl) (by kernel_rfl) (fun K hK => ?_)
      simp only [Mix.pick]
      go_wp2
      refine ⟨rfl, hK _ _ ?_⟩
      clear hK K
      refine Mix.done (by kernel_rfl) ?_
      have HP : Hid (y2 < 256 ∧ I4.pE (cb.set j y2) ≠ 0) := HY2.out (by have := HJ0.out; have := HJR.out; intro e; rw [e] at this; omega)
      have HSEG : Hid (Seg .u8 (wM.setCell ⟨g, j, none⟩ (.int .u8 (y2 : Int))) (some ⟨g, 0, none⟩) (toI (cb.set j y2))) := by
        obtain ⟨a', c', e1, hsg, _⟩ := owns_seg (HSTM.out y2)
        simp only [Value.slice.injEq, true_and] at e1
        rw [e1.1]; exact hsg
      have belM : Below w.heap.size w (wM.setCell ⟨g, j, none⟩ (.int .u8 (y2 : Int))) := HBSM.out _
      have H256' : Hid (∀ z ∈ cb.set j y2, z < 256) := by
        intro z hz
        rcases List.mem_or_eq_of_mem_set hz with hz | rfl
        · exact H256.out z hz
        · exact HP.out.1
      have QP : Hid _ := parse_two (some ⟨g, 0, none⟩) T T (cb.set j y2) _ (by rw [List.length_set]; exact HT.out) (HWID.out _ belM) HSEG.out H256'.out (Nat.le_refl _) (by omega)
      obtain ⟨E, hE⟩ : ∃ E, E = I4.pE (cb.set j y2) := ⟨_, rfl⟩
      rw [← hE] at QP HP
      have hE0 := HP.out.2
      have bE : ((E : Int) != 0) = true := by rw [bne_iff_ne]; omega
      obtain ⟨wS, hwS⟩ : ∃ wS, wS = wM.setCell ⟨g, j, none⟩ (.int .u8 (y2 : Int)) := ⟨_, rfl⟩
      rw [← hwS] at belM QP ⊢
      clear hwS hE cel' frz'
      go_wp2_with fail
      refine Calls.mono QP.out ?_
      rintro e w5 ⟨C5, rfl, hb5, hr5⟩
      rcases hr5 with ⟨_, rfl⟩ | ⟨h0, _⟩
      case inr => exact absurd h0 hE0
      have bel5 := bthen belM hb5
      clear hb5 QP belM hE0
      go_wp2_with (first | (refine wpList_alloc_h4 rfl rfl ?_) | (refine wpList_store_h4 (.tmp 9) (.tmp 65) rfl rfl w5.heap.size h4z h4z nilS nilS nilS nilS rfl rfl rfl rfl (h4At_new _ _ _ _) rfl ?_))
      intro w6 hP6 k6
      have bel6 := bthen bel5 (stored_below k6)
      clear hP6 k6 bel5
      go_wp2_with fail
      refine Calls.mono (num_any E w6) ?_
      rintro e w7 ⟨rfl, rfl⟩
      go_wp2
      go_ret
      exact ⟨rfl, bel6⟩
    · have qr : A % 8 = 6 := by have := HJR.out; omega
      go_wp2
      refine Mix.start (by kernel_rfl) ?_
      obtain ⟨wM, hwM⟩ : ∃ wM, wM = w2.drew := ⟨_, rfl⟩
      have cel' : wM.cell? ⟨g, j, none⟩ = some (.int .u8 (x : Int)) := by rw [hwM]; exact cel
      have frz' : wM.frozen? ⟨g, j, none⟩ = false := by rw [hwM]; exact frz
      have HSTM : Hid (∀ y : Nat, (wM.setCell ⟨g, j, none⟩ (.int .u8 (y : Int))).ownsRow w1.heap.size 5 1 (.slice (some ⟨g, 0, none⟩) T T) T ((toI (cb.set j y)).map (Value.int .u8))) := by
        intro y
        have h1 := ((owns_drew HOW.out).stored j (.int .u8 (y : Int))).1
        rw [set_u8] at h1
        rw [hwM]
        exact h1
      have HBSM : Hid (∀ y : Value, Below w.heap.size w (wM.setCell ⟨g, j, none⟩ y)) := fun y => by
        have b : Below w.heap.size w wM := by rw [hwM]; exact bel2.drew
        exact b.trans (((Ch.refl (fun q => q = g) wM).set ⟨g, j, none⟩ y rfl).below (fun q e => by have e' : q = g := e; have := HG.out; omega) b.size)
      rw [← hwM]
      clear hwM cel frz HST HBS
      refine Mix.take [true, true, true, true, true, true, true, false, true, true, true] 4 (by kernel_rfl) (by kernel_rfl) (by decide) (by kernel_rfl) (fun K hK => ?_)
      simp only [Mix.pick]
      repeat (go_big_quiet_step (fail))
      refine wpQuiet_nil (hK _ ?_)
      clear hK K
      refine Mix.one [false, false, false, false, false, false, false, true] 3 7 _ rfl rfl (by kernel_rfl) (by kernel_rfl) (fun K hK => ?_)
      simp only [Mix.pick]
      go_wp2
      refine ⟨rfl, hK _ _ ?_⟩
      clear hK K
      refine Mix.take [false, false, false, false, false, false, false, false, false, false, false, true, true] 1 (by kernel_rfl) (by kernel_rfl) (by decide) (by kernel_rfl) (fun K hK => ?_)
      simp only [Mix.pick]
      repeat (go_big_quiet_step (fail))
      refine wpQuiet_nil (hK _ ?_)
      clear hK K
      refine Mix.one [false, false, false, false, false, false, false, false, false, false, false, false, false, true] 0 13 _ rfl rfl (by kernel_rfl) (by kernel_rfl) (fun K hK => ?_)
      simp only [Mix.pick]
      go_wp2
      refine ⟨rfl, hK _ _ ?_⟩
      clear hK K
      refine Mix.done (by kernel_rfl) ?_
      have HP : Hid (y1 < 256 ∧ I4.pE (cb.set j y1) ≠ 0) := HY1.out (by have := HJ0.out; have := HJR.out; intro e; rw [e] at this; omega)
      have HSEG : Hid (Seg .u8 (wM.setCell ⟨g, j, none⟩ (.int .u8 (y1 : Int))) (some ⟨g, 0, none⟩) (toI (cb.set j y1))) := by
        obtain ⟨a', c', e1, hsg, _⟩ := owns_seg (HSTM.out y1)
        simp only [Value.slice.injEq, true_and] at e1
        rw [e1.1]; exact hsg
      have belM : Below w.heap.size w (wM.setCell ⟨g, j, none⟩ (.int .u8 (y1 : Int))) := HBSM.out _
      have H256' : Hid (∀ z ∈ cb.set j y1, z < 256) := by
        intro z hz
        rcases List.mem_or_eq_of_mem_set hz with hz | rfl
        · exact H256.out z hz
        · exact HP.out.1
      have QP : Hid _ := parse_two (some ⟨g, 0, none⟩) T T (cb.set j y1) _ (by rw [List.length_set]; exact HT.out) (HWID.out _ belM) HSEG.out H256'.out (Nat.le_refl _) (by omega)
      obtain ⟨E, hE⟩ : ∃ E, E = I4.pE (cb.set j y1) := ⟨_, rfl⟩
      rw [← hE] at QP HP
      have hE0 := HP.out.2
      have bE : ((E : Int) != 0) = true := by rw [bne_iff_ne]; omega
      obtain ⟨wS, hwS⟩ : ∃ wS, wS = wM.setCell ⟨g, j, none⟩ (.int .u8 (y1 : Int)) := ⟨_, rfl⟩
      rw [← hwS] at belM QP ⊢
      clear hwS hE cel' frz'
      go_wp2_with fail
      refine Calls.mono QP.out ?_
      rintro e w5 ⟨C5, rfl, hb5, hr5⟩
      rcases hr5 with ⟨_, rfl⟩ | ⟨h0, _⟩
      case inr => exact absurd h0 hE0
      have bel5 := bthen belM hb5
      clear hb5 QP belM hE0
      go_wp2_with (first | (refine wpList_alloc_h4 rfl rfl ?_) | (refine wpList_store_h4 (.tmp 9) (.tmp 65) rfl rfl w5.heap.size h4z h4z nilS nilS nilS nilS rfl rfl rfl rfl (h4At_new _ _ _ _) rfl ?_))
      intro w6 hP6 k6
      have bel6 := bthen bel5 (stored_below k6)
      clear hP6 k6 bel5
      go_wp2_with fail
      refine Calls.mono (num_any E w6) ?_
      rintro e w7 ⟨rfl, rfl⟩
      go_wp2
      go_ret
      exact ⟨rfl, bel6⟩
    · have qr : A % 8 = 7 := by have := HJR.out; omega
      go_wp2
      refine Mix.start (by kernel_rfl) ?_
      obtain ⟨wM, hwM⟩ : ∃ wM, wM = w2.drew := ⟨_, rfl⟩
      have cel' : wM.cell? ⟨g, j, none⟩ = some (.int .u8 (x : Int)) := by rw [hwM]; exact cel
      have frz' : wM.frozen? ⟨g, j, none⟩ = false := by rw [hwM]; exact frz
      have HSTM : Hid (∀ y : Nat, (wM.setCell ⟨g, j, none⟩ (.int .u8 (y : Int))).ownsRow w1.heap.size 5 1 (.slice (some ⟨g, 0, none⟩) T T) T ((toI (cb.set j y)).map (Value.int .u8))) := by
        intro y
        have h1 := ((owns_drew HOW.out).stored j (.int .u8 (y : Int))).1
        rw [set_u8] at h1
        rw [hwM]
        exact h1
      have HBSM : Hid (∀ y : Value, Below w.heap.size w (wM.setCell ⟨g, j, none⟩ y)) := fun y => by
        have b : Below w.heap.size w wM := by rw [hwM]; exact bel2.drew
        exact b.trans (((Ch.refl (fun q => q = g) wM).set ⟨g, j, none⟩ y rfl).below (fun q e => by have e' : q = g := e; have := HG.out; omega) b.size)
      rw [← hwM]
      clear hwM cel frz HST HBS
      refine Mix.take [true, true, true, true, true, true, true, false, true, true, true] 4 (by kernel_rfl) (by kernel_rfl) (by decide) (by kernel_rfl) (fun K hK => ?_)
      simp only [Mix.pick]
      repeat (go_big_quiet_step (fail))
      refine wpQuiet_nil (hK _ ?_)
      clear hK K
      refine Mix.one [false, false, false, false, false, false, false, true] 3 7 _ rfl rfl (by kernel_rfl) (by kernel_rfl) (fun K hK => ?_)
      simp only [Mix.pick]
      go_wp2
      refine ⟨rfl, hK _ _ ?_⟩
      clear hK K
      refine Mix.take [false, false, false, false, false, false, false, false, false, false, false, true, true] 1 (by kernel_rfl) (by kernel_rfl) (by decide) (by kernel_rfl) (fun K hK => ?_)
      simp only [Mix.pick]
      repeat (go_big_quiet_step (fail))
      refine wpQuiet_nil (hK _ ?_)
      clear hK K
      refine Mix.one [false, false, false, false, false, false, false, false, false, false, false, false, false, true] 0 13 _ rfl rfl (by kernel_rfl) (by kernel_rfl) (fun K hK => ?_)
      simp only [Mix.pick]
      go_wp2
      refine ⟨rfl, hK _ _ ?_⟩
      clear hK K
      refine Mix.done (by kernel_rfl) ?_
      have HP : Hid (y0 < 256 ∧ I4.pE (cb.set j y0) ≠ 0) := HY0.out (by have := HJ0.out; have := HJR.out; intro e; rw [e] at this; omega)
      have HSEG : Hid (Seg .u8 (wM.setCell ⟨g, j, none⟩ (.int .u8 (y0 : Int))) (some ⟨g, 0, none⟩) (toI (cb.set j y0))) := by
        obtain ⟨a', c', e1, hsg, _⟩ := owns_seg (HSTM.out y0)
        simp only [Value.slice.injEq, true_and] at e1
        rw [e1.1]; exact hsg
      have belM : Below w.heap.size w (wM.setCell ⟨g, j, none⟩ (.int .u8 (y0 : Int))) := HBSM.out _
      have H256' : Hid (∀ z ∈ cb.set j y0, z < 256) := by
        intro z hz
        rcases List.mem_or_eq_of_mem_set hz with hz | rfl
        · exact H256.out z hz
        · exact HP.out.1
      have QP : Hid _ := parse_two (some ⟨g, 0, none⟩) T T (cb.set j y0) _ (by rw [List.length_set]; exact HT.out) (HWID.out _ belM) HSEG.out H256'.out (Nat.le_refl _) (by omega)
      obtain ⟨E, hE⟩ : ∃ E, E = I4.pE (cb.set j y0) := ⟨_, rfl⟩
      rw [← hE] at QP HP
      have hE0 := HP.out.2
      have bE : ((E : Int) != 0) = true := by rw [bne_iff_ne]; omega
      obtain ⟨wS, hwS⟩ : ∃ wS, wS = wM.setCell ⟨g, j, none⟩ (.int .u8 (y0 : Int)) := ⟨_, rfl⟩
      rw [← hwS] at belM QP ⊢
      clear hwS hE cel' frz'
      go_wp2_with fail
      refine Calls.mono QP.out ?_
      rintro e w5 ⟨C5, rfl, hb5, hr5⟩
      rcases hr5 with ⟨_, rfl⟩ | ⟨h0, _⟩
      case inr => exact absurd h0 hE0
      have bel5 := bthen belM hb5
      clear hb5 QP belM hE0
      go_wp2_with (first | (refine wpList_alloc_h4 rfl rfl ?_) | (refine wpList_store_h4 (.tmp 9) (.tmp 65) rfl rfl w5.heap.size h4z h4z nilS nilS nilS nilS rfl rfl rfl rfl (h4At_new _ _ _ _) rfl ?_))
      intro w6 hP6 k6
      have bel6 := bthen bel5 (stored_below k6)
      clear hP6 k6 bel5
      go_wp2_with fail
      refine Calls.mono (num_any E w6) ?_
      rintro e w7 ⟨rfl, rfl⟩
      go_wp2
      go_ret
      exact ⟨rfl, bel6⟩
end Go.Proofs.YtdinhgfkpjaipaaDoor
