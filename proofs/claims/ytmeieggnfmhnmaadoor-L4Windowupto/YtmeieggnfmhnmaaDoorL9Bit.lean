/-
  Copied; turned: a copy with one bit turned over; what a bit turned over does to a sum.
-/
import Derived.Test.YtmeieggnfmhnmaaDoorL9Uni
namespace Go.Proofs.YtmeieggnfmhnmaaDoor
open Go.RowKit
open L4 (U9 T9)

set_option maxHeartbeats 800000 in
set_option maxRecDepth 100000 in
theorem copied_any (a : Option Addr) (n cap : Nat) (l : List Nat) (w : World) (hn : l.length = n) (hs : Seg .u8 w a (toI l)) (hm : n ≤ 140737488355328) :
    Calls Tryd.prog 29 #[.slice a n cap] w fun e w' => ∃ v, e = .returned v ∧ w'.ownsRow w.heap.size 5 1 v n ((toI l).map (Value.int .u8)) ∧ Below w.heap.size w w' := by
  obtain ⟨i0, hi, hz0, hz1, hz2⟩ := info_parts Tryd.infoByte
  have HN : Hid (l.length = n) := hn
  have HS : Hid (Seg .u8 w a (toI l)) := hs
  clear hn hs
  go_enter Tryd.func29, Tryd.ntmps29
  go_wp2_with (first | (at_builtin; refine append_split_seg rfl (.tmp 4) (.tmp 5) 25 rfl w.heap.size 5 i0 (.int .u8 0) 1 Tryd.underlying25 hi hz0 hz1 hz2 rfl (.slice none 0 0) 0 [] rfl (World.ownsRow_nil _ _ _ _) .u8 a n cap (toI l) rfl (by rw [toI_len]; exact HN.out) HS.out (by unfold maxLen; omega) (by omega) (Nat.le_refl _) ?_))
  intro v' w' ho hq hg
  have hb : Below w.heap.size w w' := (Below.refl _ _).grown hg (Nat.le_refl _) (by intro k hk; simp [Value.ownBlock] at hk)
  have HO : Hid (w'.ownsRow w.heap.size 5 1 v' n ((toI l).map (Value.int .u8))) := by
    have h1 : w'.ownsRow w.heap.size 5 1 v' n ((toI l).map (Value.int .u8)) := by simpa using ho
    exact h1
  clear ho hq hg
  go_wp2
  go_ret
  exact ⟨_, rfl, HO.out, hb⟩
theorem xor_bit : ∀ x, x < 256 → ∀ s, s < 8 → (x ^^^ 2 ^ s = x + 2 ^ s ∨ (x ^^^ 2 ^ s) + 2 ^ s = x) ∧ x ^^^ 2 ^ s < 256 ∧ 1 ≤ 2 ^ s ∧ 2 ^ s ≤ 128 := by decide +kernel
theorem flip_bad (l : List Nat) (i x s : Nat) (hi : i < l.length) (hx : x = l[i]) (hx2 : x < 256) (hs : s < 8) (h : S.fold (S.wv false l) = 65535) : S.fold (S.wv false (l.set i (x ^^^ 2 ^ s))) ≠ 65535 := by
  obtain ⟨h1, h2, h3, h4⟩ := xor_bit x hx2 s hs
  have e := S.wv_set false l i (x ^^^ 2 ^ s) hi
  rw [← hx] at e
  rw [S.fold_full] at h
  intro hc
  rw [S.fold_full] at hc
  generalize x ^^^ 2 ^ s = y at *
  generalize 2 ^ s = p at *
  have hw : S.wt false i = 1 ∨ S.wt false i = 256 := by unfold S.wt; split <;> simp
  rcases hw with hw | hw <;> rw [hw] at e <;> omega
theorem set_256 {l : List Nat} {j y : Nat} (h : ∀ z ∈ l, z < 256) (hy : y < 256) : ∀ z ∈ l.set j y, z < 256 := by
  intro z hz
  rcases List.mem_or_eq_of_mem_set hz with hz | rfl
  · exact h z hz
  · exact hy
set_option maxHeartbeats 6400000 in
set_option maxRecDepth 100000 in
theorem turned_any (a : Option Addr) (n cap : Nat) (cb : List Nat) (j r : Nat) (w : World) (hd : DOk w cb a n cap) (hj : j < n) (hr : r < 8) (hn : n ≤ 65535) :
    Calls Tryd.prog 22 #[.slice a n cap, .int .i64 ((8 * j + r : Nat) : Int)] w fun e w' => ∃ g c, e = .returned (.slice (some ⟨g, 0, none⟩) n c) ∧ Below w.heap.size w w' ∧ DOk w' (cb.set j (cb.getD j 0 ^^^ 2 ^ (7 - r))) (some ⟨g, 0, none⟩) n c := by
  obtain ⟨A, hA⟩ : ∃ A : Int, A = ((8 * j + r : Nat) : Int) := ⟨_, rfl⟩
  rw [← hA]
  have HJR : Hid (A = ((8 * j + r : Nat) : Int)) := hA
  obtain ⟨x, hx⟩ : ∃ x, x = cb.getD j 0 := ⟨_, rfl⟩
  rw [← hx]
  have HXE : Hid (x = cb.getD j 0) := hx
  clear hA hx
  have HD : Hid (DOk w cb a n cap) := hd
  have QC : Hid _ := copied_any a n cap cb w hd.dl hd.seg (by have := hd.sm; omega)
  clear hd
  go_enter Tryd.func22, Tryd.ntmps22
  go_wp2_with fail
  refine Calls.mono QC.out ?_
  rintro e w2 ⟨v, rfl, ho, hb2⟩
  clear QC
  obtain ⟨g0, c, hv⟩ := owns_shape ho
  subst hv
  obtain ⟨g, rfl⟩ : ∃ g, g0 = some ⟨g, 0, none⟩ := by
    rcases ho.2 with ⟨e, h0⟩ | ⟨g', cap', cur, e, _⟩
    · exfalso
      have h1 := ho.1
      simp only [Value.slice.injEq] at e
      omega
    · simp only [Value.slice.injEq] at e
      exact ⟨g', e.1⟩
  have HOW : Hid (w2.ownsRow w.heap.size 5 1 (.slice (some ⟨g, 0, none⟩) n c) n ((toI cb).map (Value.int .u8))) := ho
  have HG : Hid (w.heap.size ≤ g) := (ho.lt g rfl).1
  have hx := HXE.out
  have hA := HJR.out
  have hx2 : x < 256 := by rw [hx]; exact I4.getD_lt cb HD.out.d256 j
  have cel : w2.cell? ⟨g, j, none⟩ = some (.int .u8 (x : Int)) := by
    have := HOW.out.cellAt j (by omega)
    rw [this, hx]
    have hl : j < cb.length := by rw [HD.out.dl]; exact hj
    simp [toI, List.getD, hl]
  have frz : w2.frozen? ⟨g, j, none⟩ = false := HOW.out.frozenAt j
  have HX2 : Hid (x < 256) := hx2
  have HXB : Hid (∀ s, s < 8 → x ^^^ 2 ^ s < 256) := fun s h8 => (xor_bit x hx2 s h8).2.1
  have hxx : ∀ m : Nat, m < 256 → bits .xor .u8 (x : Int) (m : Int) = ((x ^^^ m : Nat) : Int) := fun m hm => u8_xor_nat x m hx2 hm
  have x128 : bits .xor .u8 (x : Int) 128 = ((x ^^^ 2 ^ 7 : Nat) : Int) := hxx 128 (by decide)
  have x64 : bits .xor .u8 (x : Int) 64 = ((x ^^^ 2 ^ 6 : Nat) : Int) := hxx 64 (by decide)
  have x32 : bits .xor .u8 (x : Int) 32 = ((x ^^^ 2 ^ 5 : Nat) : Int) := hxx 32 (by decide)
  have x16 : bits .xor .u8 (x : Int) 16 = ((x ^^^ 2 ^ 4 : Nat) : Int) := hxx 16 (by decide)
  have x8 : bits .xor .u8 (x : Int) 8 = ((x ^^^ 2 ^ 3 : Nat) : Int) := hxx 8 (by decide)
  have x4 : bits .xor .u8 (x : Int) 4 = ((x ^^^ 2 ^ 2 : Nat) : Int) := hxx 4 (by decide)
  have x2 : bits .xor .u8 (x : Int) 2 = ((x ^^^ 2 ^ 1 : Nat) : Int) := hxx 2 (by decide)
  have x1 : bits .xor .u8 (x : Int) 1 = ((x ^^^ 2 ^ 0 : Nat) : Int) := hxx 1 (by decide)
  obtain ⟨y7, hy7⟩ : ∃ y, y = x ^^^ 2 ^ 7 := ⟨_, rfl⟩
  rw [← hy7] at x128
  obtain ⟨y6, hy6⟩ : ∃ y, y = x ^^^ 2 ^ 6 := ⟨_, rfl⟩
  rw [← hy6] at x64
  obtain ⟨y5, hy5⟩ : ∃ y, y = x ^^^ 2 ^ 5 := ⟨_, rfl⟩
  rw [← hy5] at x32
  obtain ⟨y4, hy4⟩ : ∃ y, y = x ^^^ 2 ^ 4 := ⟨_, rfl⟩
  rw [← hy4] at x16
  obtain ⟨y3, hy3⟩ : ∃ y, y = x ^^^ 2 ^ 3 := ⟨_, rfl⟩
  rw [← hy3] at x8
  obtain ⟨y2, hy2⟩ : ∃ y, y = x ^^^ 2 ^ 2 := ⟨_, rfl⟩
  rw [← hy2] at x4
  obtain ⟨y1, hy1⟩ : ∃ y, y = x ^^^ 2 ^ 1 := ⟨_, rfl⟩
  rw [← hy1] at x2
  obtain ⟨y0, hy0⟩ : ∃ y, y = x ^^^ 2 ^ 0 := ⟨_, rfl⟩
  rw [← hy0] at x1
  have HY7 : Hid (y7 = x ^^^ 2 ^ 7) := hy7
  have HY6 : Hid (y6 = x ^^^ 2 ^ 6) := hy6
  have HY5 : Hid (y5 = x ^^^ 2 ^ 5) := hy5
  have HY4 : Hid (y4 = x ^^^ 2 ^ 4) := hy4
  have HY3 : Hid (y3 = x ^^^ 2 ^ 3) := hy3
  have HY2 : Hid (y2 = x ^^^ 2 ^ 2) := hy2
  have HY1 : Hid (y1 = x ^^^ 2 ^ 1) := hy1
  have HY0 : Hid (y0 = x ^^^ 2 ^ 0) := hy0
  have qa : A / 8 = (j : Int) := by omega


  have j0 : (0 : Int) ≤ (j : Int) := by omega
  have j1 : (j : Int) < (n : Int) := by omega
  have j2 : ((j : Int)).toNat = j := by omega
  have HN : Hid (n ≤ 65535) := hn
  have HC : Hid (n ≤ c ∧ c ≤ 9223372036854775807) := (owns_seg_at ho).2
  have c1 : (0 : Int) ≤ A := by omega
  have c2 : A ≤ 524287 := by omega
  clear hx hy0 hy1 hy2 hy3 hy4 hy5 hy6 hy7 hxx hA hn ho hx2
  have hrr : r = 0 ∨ r = 1 ∨ r = 2 ∨ r = 3 ∨ r = 4 ∨ r = 5 ∨ r = 6 ∨ r = 7 := by omega
  clear hr
  rcases hrr with rfl | rfl | rfl | rfl | rfl | rfl | rfl | rfl
  · have qr : A % 8 = 0 := by have := HJR.out; omega
    go_wp2
    refine Mix.start (by kernel_rfl) ?_
    obtain ⟨wM, hwM⟩ : ∃ wM, wM = w2.drew := ⟨_, rfl⟩
    have cel' : wM.cell? ⟨g, j, none⟩ = some (.int .u8 (x : Int)) := by rw [hwM]; exact cel
    have frz' : wM.frozen? ⟨g, j, none⟩ = false := by rw [hwM]; exact frz
    have HSTM : Hid ((wM.setCell ⟨g, j, none⟩ (.int .u8 (y7 : Int))).ownsRow w.heap.size 5 1 (.slice (some ⟨g, 0, none⟩) n c) n ((toI (cb.set j y7)).map (Value.int .u8))) := by
      have h1 := ((owns_drew HOW.out).stored j (.int .u8 (y7 : Int))).1
      rw [set_u8] at h1
      rw [hwM]
      exact h1
    have HBSM : Hid (Below w.heap.size w (wM.setCell ⟨g, j, none⟩ (.int .u8 (y7 : Int)))) := by
      have b : Below w.heap.size w wM := by rw [hwM]; exact hb2.drew
      exact b.trans (((Ch.refl (fun q => q = g) wM).set ⟨g, j, none⟩ _ rfl).below (fun q e => by have e' : q = g := e; have := HG.out; omega) b.size)
    rw [← hwM]
    clear hwM cel frz
    refine Mix.take [true, true, true, true, true, true, true, false, true, true, true] 4 (by kernel_rfl) (by kernel_rfl) (by decide) (by kernel_rfl) (fun K hK => ?_)
    simp only [Mix.pick]
    repeat (go_big_quiet_step (fail))
    refine wpQuiet_nil (hK _ ?_)
    clear hK K
    refine Mix.one [false, false, false, false, false, false, false, true] 3 7 _ rfl rfl (by kernel_rfl) (by kernel_rfl) (fun K hK => ?_)
    simp only [Mix.pick]
    go_wp2
    refine ⟨rfl, hK _ _ ?_⟩
    clear hK K
    refine Mix.take [false, false, false, false, false, false, false, false, false, false, false, true, true] 1 (by kernel_rfl) (by kernel_rfl) (by decide) (by kernel_rfl) (fun K hK => ?_)
    simp only [Mix.pick]
    repeat (go_big_quiet_step (fail))
    refine wpQuiet_nil (hK _ ?_)
    clear hK K
    refine Mix.one [false, false, false, false, false, false, false, false, false, false, false, false, false, true] 0 13 _ rfl rfl (by kernel_rfl) (by kernel_rfl) (fun K hK => ?_)
    simp only [Mix.pick]
    go_wp2
    refine ⟨rfl, hK _ _ ?_⟩
    clear hK K
    refine Mix.done (by kernel_rfl) ?_
    go_wp2
    go_ret
    refine ⟨g, c, rfl, HBSM.out, ?_⟩
    have e7 : (7 - 0 : Nat) = 7 := rfl
    rw [e7, ← HY7.out]
    refine ⟨by rw [List.length_set]; exact HD.out.dl, (owns_seg_at HSTM.out).1, set_256 HD.out.d256 (by rw [HY7.out]; exact HXB.out 7 (by decide)), HC.out.1, HC.out.2, by have := HN.out; omega⟩
  · have qr : A % 8 = 1 := by have := HJR.out; omega
    go_wp2
    refine Mix.start (by kernel_rfl) ?_
    obtain ⟨wM, hwM⟩ : ∃ wM, wM = w2.drew := ⟨_, rfl⟩
    have cel' : wM.cell? ⟨g, j, none⟩ = some (.int .u8 (x : Int)) := by rw [hwM]; exact cel
    have frz' : wM.frozen? ⟨g, j, none⟩ = false := by rw [hwM]; exact frz
    have HSTM : Hid ((wM.setCell ⟨g, j, none⟩ (.int .u8 (y6 : Int))).ownsRow w.heap.size 5 1 (.slice (some ⟨g, 0, none⟩) n c) n ((toI (cb.set j y6)).map (Value.int .u8))) := by
      have h1 := ((owns_drew HOW.out).stored j (.int .u8 (y6 : Int))).1
      rw [set_u8] at h1
      rw [hwM]
      exact h1
    have HBSM : Hid (Below w.heap.size w (wM.setCell ⟨g, j, none⟩ (.int .u8 (y6 : Int)))) := by
      have b : Below w.heap.size w wM := by rw [hwM]; exact hb2.drew
      exact b.trans (((Ch.refl (fun q => q = g) wM).set ⟨g, j, none⟩ _ rfl).below (fun q e => by have e' : q = g := e; have := HG.out; omega) b.size)
    rw [← hwM]
    clear hwM cel frz
    refine Mix.take [true, true, true, true, true, true, true, false, true, true, true] 4 (by kernel_rfl) (by kernel_rfl) (by decide) (by kernel_rfl) (fun K hK => ?_)
    simp only [Mix.pick]
    repeat (go_big_quiet_step (fail))
    refine wpQuiet_nil (hK _ ?_)
    clear hK K
    refine Mix.one [false, false, false, false, false, false, false, true] 3 7 _ rfl rfl (by kernel_rfl) (by kernel_rfl) (fun K hK => ?_)
    simp only [Mix.pick]
    go_wp2
    refine ⟨rfl, hK _ _ ?_⟩
    clear hK K
    refine Mix.take [false, false, false, false, false, false, false, false, false, false, false, true, true] 1 (by kernel_rfl) (by kernel_rfl) (by decide) (by kernel_rfl) (fun K hK => ?_)
    simp only [Mix.pick]
    repeat (go_big_quiet_step (fail))
    refine wpQuiet_nil (hK _ ?_)
    clear hK K
    refine Mix.one [false, false, false, false, false, false, false, false, false, false, false, false, false, true] 0 13 _ rfl rfl (by kernel_rfl) (by kernel_rfl) (fun K hK => ?_)
    simp only [Mix.pick]
    go_wp2
    refine ⟨rfl, hK _ _ ?_⟩
    clear hK K
    refine Mix.done (by kernel_rfl) ?_
    go_wp2
    go_ret
    refine ⟨g, c, rfl, HBSM.out, ?_⟩
    have e7 : (7 - 1 : Nat) = 6 := rfl
    rw [e7, ← HY6.out]
    refine ⟨by rw [List.length_set]; exact HD.out.dl, (owns_seg_at HSTM.out).1, set_256 HD.out.d256 (by rw [HY6.out]; exact HXB.out 6 (by decide)), HC.out.1, HC.out.2, by have := HN.out; omega⟩
  · have qr : A % 8 = 2 := by have := HJR.out; omega
    go_wp2
    refine Mix.start (by kernel_rfl) ?_
    obtain ⟨wM, hwM⟩ : ∃ wM, wM = w2.drew := ⟨_, rfl⟩
    have cel' : wM.cell? ⟨g, j, none⟩ = some (.int .u8 (x : Int)) := by rw [hwM]; exact cel
    have frz' : wM.frozen? ⟨g, j, none⟩ = false := by rw [hwM]; exact frz
    have HSTM : Hid ((wM.setCell ⟨g, j, none⟩ (.int .u8 (y5 : Int))).ownsRow w.heap.size 5 1 (.slice (some ⟨g, 0, none⟩) n c) n ((toI (cb.set j y5)).map (Value.int .u8))) := by
      have h1 := ((owns_drew HOW.out).stored j (.int .u8 (y5 : Int))).1
      rw [set_u8] at h1
      rw [hwM]
      exact h1
    have HBSM : Hid (Below w.heap.size w (wM.setCell ⟨g, j, none⟩ (.int .u8 (y5 : Int)))) := by
      have b : Below w.heap.size w wM := by rw [hwM]; exact hb2.drew
      exact b.trans (((Ch.refl (fun q => q = g) wM).set ⟨g, j, none⟩ _ rfl).below (fun q e => by have e' : q = g := e; have := HG.out; omega) b.size)
    rw [← hwM]
    clear hwM cel frz
    refine Mix.take [true, true, true, true, true, true, true, false, true, true, true] 4 (by kernel_rfl) (by kernel_rfl) (by decide) (by kernel_rfl) (fun K hK => ?_)
    simp only [Mix.pick]
    repeat (go_big_quiet_step (fail))
    refine wpQuiet_nil (hK _ ?_)
    clear hK K
    refine Mix.one [false, false, false, false, false, false, false, true] 3 7 _ rfl rfl (by kernel_rfl) (by kernel_rfl) (fun K hK => ?_)
    simp only [Mix.pick]
    go_wp2
    refine ⟨rfl, hK _ _ ?_⟩
    clear hK K
    refine Mix.take [false, false, false, false, false, false, false, false, false, false, false, true, true] 1 (by kernel_rfl) (by kernel_rfl) (by decide) (by kernel_rfl) (fun K hK => ?_)
    simp only [Mix.pick]
    repeat (go_big_quiet_step (fail))
    refine wpQuiet_nil (hK _ ?_)
    clear hK K
    refine Mix.one [false, false, false, false, false, false, false, false, false, false, false, false, false, true] 0 13 _ rfl rfl (by kernel_rfl) (by kernel_rfl) (fun K hK => ?_)
    simp only [Mix.pick]
    go_wp2
    refine ⟨rfl, hK _ _ ?_⟩
    clear hK K
    refine Mix.done (by kernel_rfl) ?_
    go_wp2
    go_ret
    refine ⟨g, c, rfl, HBSM.out, ?_⟩
    have e7 : (7 - 2 : Nat) = 5 := rfl
    rw [e7, ← HY5.out]
    refine ⟨by rw [List.length_set]; exact HD.out.dl, (owns_seg_at HSTM.out).1, set_256 HD.out.d256 (by rw [HY5.out]; exact HXB.out 5 (by decide)), HC.out.1, HC.out.2, by have := HN.out; omega⟩
  · have qr : A % 8 = 3 := by have := HJR.out; omega
    go_wp2
    refine Mix.start (by kernel_rfl) ?_
    obtain ⟨wM, hwM⟩ : ∃ wM, wM = w2.drew := ⟨_, rfl⟩
    have cel' : wM.cell? ⟨g, j, none⟩ = some (.int .u8 (x : Int)) := by rw [hwM]; exact cel
    have frz' : wM.frozen? ⟨g, j, none⟩ = false := by rw [hwM]; exact frz
    have HSTM : Hid ((wM.setCell ⟨g, j, none⟩ (.int .u8 (y4 : Int))).ownsRow w.heap.size 5 1 (.slice (some ⟨g, 0, none⟩) n c) n ((toI (cb.set j y4)).map (Value.int .u8))) := by
      have h1 := ((owns_drew HOW.out).stored j (.int .u8 (y4 : Int))).1
      rw [set_u8] at h1
      rw [hwM]
      exact h1
    have HBSM : Hid (Below w.heap.size w (wM.setCell ⟨g, j, none⟩ (.int .u8 (y4 : Int)))) := by
      have b : Below w.heap.size w wM := by rw [hwM]; exact hb2.drew
      exact b.trans (((Ch.refl (fun q => q = g) wM).set ⟨g, j, none⟩ _ rfl).below (fun q e => by have e' : q = g := e; have := HG.out; omega) b.size)
    rw [← hwM]
    clear hwM cel frz
    refine Mix.take [true, true, true, true, true, true, true, false, true, true, true] 4 (by kernel_rfl) (by kernel_rfl) (by decide) (by kernel_rfl) (fun K hK => ?_)
    simp only [Mix.pick]
    repeat (go_big_quiet_step (fail))
    refine wpQuiet_nil (hK _ ?_)
    clear hK K
    refine Mix.one [false, false, false, false, false, false, false, true] 3 7 _ rfl rfl (by kernel_rfl) (by kernel_rfl) (fun K hK => ?_)
    simp only [Mix.pick]
    go_wp2
    refine ⟨rfl, hK _ _ ?_⟩
    clear hK K
    refine Mix.take [false, false, false, false, false, false, false, false, false, false, false, true, true] 1 (by kernel_rfl) (by kernel_rfl) (by decide) (by kernel_rfl) (fun K hK => ?_)
    simp only [Mix.pick]
    repeat (go_big_quiet_step (fail))
    refine wpQuiet_nil (hK _ ?_)
    clear hK K
    refine Mix.one [false, false, false, false, false, false, false, false, false, false, false, false, false, true] 0 13 _ rfl rfl (by kernel_rfl) (by kernel_rfl) (fun K hK => ?_)
    simp only [Mix.pick]
    go_wp2
    refine ⟨rfl, hK _ _ ?_⟩
    clear hK K
    refine Mix.done (by kernel_rfl) ?_
    go_wp2
    go_ret
    refine ⟨g, c, rfl, HBSM.out, ?_⟩
    have e7 : (7 - 3 : Nat) = 4 := rfl
    rw [e7, ← HY4.out]
    refine ⟨by rw [List.length_set]; exact HD.out.dl, (owns_seg_at HSTM.out).1, set_256 HD.out.d256 (by rw [HY4.out]; exact HXB.out 4 (by decide)), HC.out.1, HC.out.2, by have := HN.out; omega⟩
  · have qr : A % 8 = 4 := by have := HJR.out; omega
    go_wp2
    refine Mix.start (by kernel_rfl) ?_
    obtain ⟨wM, hwM⟩ : ∃ wM, wM = w2.drew := ⟨_, rfl⟩
    have cel' : wM.cell? ⟨g, j, none⟩ = some (.int .u8 (x : Int)) := by rw [hwM]; exact cel
    have frz' : wM.frozen? ⟨g, j, none⟩ = false := by rw [hwM]; exact frz
    have HSTM : Hid ((wM.setCell ⟨g, j, none⟩ (.int .u8 (y3 : Int))).ownsRow w.heap.size 5 1 (.slice (some ⟨g, 0, none⟩) n c) n ((toI (cb.set j y3)).map (Value.int .u8))) := by
      have h1 := ((owns_drew HOW.out).stored j (.int .u8 (y3 : Int))).1
      rw [set_u8] at h1
      rw [hwM]
      exact h1
    have HBSM : Hid (Below w.heap.size w (wM.setCell ⟨g, j, none⟩ (.int .u8 (y3 : Int)))) := by
      have b : Below w.heap.size w wM := by rw [hwM]; exact hb2.drew
      exact b.trans (((Ch.refl (fun q => q = g) wM).set ⟨g, j, none⟩ _ rfl).below (fun q e => by have e' : q = g := e; have := HG.out; omega) b.size)
    rw [← hwM]
    clear hwM cel frz
    refine Mix.take [true, true, true, true, true, true, true, false, true, true, true] 4 (by kernel_rfl) (by kernel_rfl) (by decide) (by kernel_rfl) (fun K hK => ?_)
    simp only [Mix.pick]
    repeat (go_big_quiet_step (fail))
    refine wpQuiet_nil (hK _ ?_)
    clear hK K
    refine Mix.one [false, false, false, false, false, false, false, true] 3 7 _ rfl rfl (by kernel_rfl) (by kernel_rfl) (fun K hK => ?_)
    simp only [Mix.pick]
    go_wp2
    refine ⟨rfl, hK _ _ ?_⟩
    clear hK K
    refine Mix.take [false, false, false, false, false, false, false, false, false, false, false, true, true] 1 (by kernel_rfl) (by kernel_rfl) (by decide) (by kernel_rfl) (fun K hK => ?_)
    simp only [Mix.pick]
    repeat (go_big_quiet_step (fail))
    refine wpQuiet_nil (hK _ ?_)
    clear hK K
    refine Mix.one [false, false, false, false, false, false, false, false, false, false, false, false, false, true] 0 13 _ rfl rfl (by kernel_rfl) (by kernel_rfl) (fun K hK => ?_)
    simp only [Mix.pick]
    go_wp2
    refine ⟨rfl, hK _ _ ?_⟩
    clear hK K
    refine Mix.done (by kernel_rfl) ?_
    go_wp2
    go_ret
    refine ⟨g, c, rfl, HBSM.out, ?_⟩
    have e7 : (7 - 4 : Nat) = 3 := rfl
    rw [e7, ← HY3.out]
    refine ⟨by rw [List.length_set]; exact HD.out.dl, (owns_seg_at HSTM.out).1, set_256 HD.out.d256 (by rw [HY3.out]; exact HXB.out 3 (by decide)), HC.out.1, HC.out.2, by have := HN.out; omega⟩
  · have qr : A % 8 = 5 := by have := HJR.out; omega
    go_wp2
    refine Mix.start (by kernel_rfl) ?_
    obtain ⟨wM, hwM⟩ : ∃ wM, wM = w2.drew := ⟨_, rfl⟩
    have cel' : wM.cell? ⟨g, j, none⟩ = some (.int .u8 (x : Int)) := by rw [hwM]; exact cel
    have frz' : wM.frozen? ⟨g, j, none⟩ = false := by rw [hwM]; exact frz
    have HSTM : Hid ((wM.setCell ⟨g, j, none⟩ (.int .u8 (y2 : Int))).ownsRow w.heap.size 5 1 (.slice (some ⟨g, 0, none⟩) n c) n ((toI (cb.set j y2)).map (Value.int .u8))) := by
      have h1 := ((owns_drew HOW.out).stored j (.int .u8 (y2 : Int))).1
      rw [set_u8] at h1
      rw [hwM]
      exact h1
    have HBSM : Hid (Below w.heap.size w (wM.setCell ⟨g, j, none⟩ (.int .u8 (y2 : Int)))) := by
      have b : Below w.heap.size w wM := by rw [hwM]; exact hb2.drew
      exact b.trans (((Ch.refl (fun q => q = g) wM).set ⟨g, j, none⟩ _ rfl).below (fun q e => by have e' : q = g := e; have := HG.out; omega) b.size)
    rw [← hwM]
    clear hwM cel frz
    refine Mix.take [true, true, true, true, true, true, true, false, true, true, true] 4 (by kernel_rfl) (by kernel_rfl) (by decide) (by kernel_rfl) (fun K hK => ?_)
    simp only [Mix.pick]
    repeat (go_big_quiet_step (fail))
    refine wpQuiet_nil (hK _ ?_)
    clear hK K
    refine Mix.one [false, false, false, false, false, false, false, true] 3 7 _ rfl rfl (by kernel_rfl) (by kernel_rfl) (fun K hK => ?_)
    simp only [Mix.pick]
    go_wp2
    refine ⟨rfl, hK _ _ ?_⟩
    clear hK K
    refine Mix.take [false, false, false, false, false, false, false, false, false, false, false, true, true] 1 (by kernel_rfl) (by kernel_rfl) (by decide) (by kernel_rfl) (fun K hK => ?_)
    simp only [Mix.pick]
    repeat (go_big_quiet_step (fail))
    refine wpQuiet_nil (hK _ ?_)
    clear hK K
    refine Mix.one [false, false, false, false, false, false, false, false, false, false, false, false, false, true] 0 13 _ rfl rfl (by kernel_rfl) (by kernel_rfl) (fun K hK => ?_)
    simp only [Mix.pick]
    go_wp2
    refine ⟨rfl, hK _ _ ?_⟩
    clear hK K
    refine Mix.done (by kernel_rfl) ?_
    go_wp2
    go_ret
    refine ⟨g, c, rfl, HBSM.out, ?_⟩
    have e7 : (7 - 5 : Nat) = 2 := rfl
    rw [e7, ← HY2.out]
    refine ⟨by rw [List.length_set]; exact HD.out.dl, (owns_seg_at HSTM.out).1, set_256 HD.out.d256 (by rw [HY2.out]; exact HXB.out 2 (by decide)), HC.out.1, HC.out.2, by have := HN.out; omega⟩
  · have qr : A % 8 = 6 := by have := HJR.out; omega
    go_wp2
    refine Mix.start (by kernel_rfl) ?_
    obtain ⟨wM, hwM⟩ : ∃ wM, wM = w2.drew := ⟨_, rfl⟩
    have cel' : wM.cell? ⟨g, j, none⟩ = some (.int .u8 (x : Int)) := by rw [hwM]; exact cel
    have frz' : wM.frozen? ⟨g, j, none⟩ = false := by rw [hwM]; exact frz
    have HSTM : Hid ((wM.setCell ⟨g, j, none⟩ (.int .u8 (y1 : Int))).ownsRow w.heap.size 5 1 (.slice (some ⟨g, 0, none⟩) n c) n ((toI (cb.set j y1)).map (Value.int .u8))) := by
      have h1 := ((owns_drew HOW.out).stored j (.int .u8 (y1 : Int))).1
      rw [set_u8] at h1
      rw [hwM]
      exact h1
    have HBSM : Hid (Below w.heap.size w (wM.setCell ⟨g, j, none⟩ (.int .u8 (y1 : Int)))) := by
      have b : Below w.heap.size w wM := by rw [hwM]; exact hb2.drew
      exact b.trans (((Ch.refl (fun q => q = g) wM).set ⟨g, j, none⟩ _ rfl).below (fun q e => by have e' : q = g := e; have := HG.out; omega) b.size)
    rw [← hwM]
    clear hwM cel frz
    refine Mix.take [true, true, true, true, true, true, true, false, true, true, true] 4 (by kernel_rfl) (by kernel_rfl) (by decide) (by kernel_rfl) (fun K hK => ?_)
    simp only [Mix.pick]
    repeat (go_big_quiet_step (fail))
    refine wpQuiet_nil (hK _ ?_)
    clear hK K
    refine Mix.one [false, false, false, false, false, false, false, true] 3 7 _ rfl rfl (by kernel_rfl) (by kernel_rfl) (fun K hK => ?_)
    simp only [Mix.pick]
    go_wp2
    refine ⟨rfl, hK _ _ ?_⟩
    clear hK K
    refine Mix.take [false, false, false, false, false, false, false, false, false, false, false, true, true] 1 (by kernel_rfl) (by kernel_rfl) (by decide) (by kernel_rfl) (fun K hK => ?_)
    simp only [Mix.pick]
    repeat (go_big_quiet_step (fail))
    refine wpQuiet_nil (hK _ ?_)
    clear hK K
    refine Mix.one [false, false, false, false, false, false, false, false, false, false, false, false, false, true] 0 13 _ rfl rfl (by kernel_rfl) (by kernel_rfl) (fun K hK => ?_)
    simp only [Mix.pick]
    go_wp2
    refine ⟨rfl, hK _ _ ?_⟩
    clear hK K
    refine Mix.done (by kernel_rfl) ?_
    go_wp2
    go_ret
    refine ⟨g, c, rfl, HBSM.out, ?_⟩
    have e7 : (7 - 6 : Nat) = 1 := rfl
    rw [e7, ← HY1.out]
    refine ⟨by rw [List.length_set]; exact HD.out.dl, (owns_seg_at HSTM.out).1, set_256 HD.out.d256 (by rw [HY1.out]; exact HXB.out 1 (by decide)), HC.out.1, HC.out.2, by have := HN.out; omega⟩
  · have qr : A % 8 = 7 := by have := HJR.out; omega
    go_wp2
    refine Mix.start (by kernel_rfl) ?_
    obtain ⟨wM, hwM⟩ : ∃ wM, wM = w2.drew := ⟨_, rfl⟩
    have cel' : wM.cell? ⟨g, j, none⟩ = some (.int .u8 (x : Int)) := by rw [hwM]; exact cel
    have frz' : wM.frozen? ⟨g, j, none⟩ = false := by rw [hwM]; exact frz
    have HSTM : Hid ((wM.setCell ⟨g, j, none⟩ (.int .u8 (y0 : Int))).ownsRow w.heap.size 5 1 (.slice (some ⟨g, 0, none⟩) n c) n ((toI (cb.set j y0)).map (Value.int .u8))) := by
      have h1 := ((owns_drew HOW.out).stored j (.int .u8 (y0 : Int))).1
      rw [set_u8] at h1
      rw [hwM]
      exact h1
    have HBSM : Hid (Below w.heap.size w (wM.setCell ⟨g, j, none⟩ (.int .u8 (y0 : Int)))) := by
      have b : Below w.heap.size w wM := by rw [hwM]; exact hb2.drew
      exact b.trans (((Ch.refl (fun q => q = g) wM).set ⟨g, j, none⟩ _ rfl).below (fun q e => by have e' : q = g := e; have := HG.out; omega) b.size)
    rw [← hwM]
    clear hwM cel frz
    refine Mix.take [true, true, true, true, true, true, true, false, true, true, true] 4 (by kernel_rfl) (by kernel_rfl) (by decide) (by kernel_rfl) (fun K hK => ?_)
    simp only [Mix.pick]
    repeat (go_big_quiet_step (fail))
    refine wpQuiet_nil (hK _ ?_)
    clear hK K
    refine Mix.one [false, false, false, false, false, false, false, true] 3 7 _ rfl rfl (by kernel_rfl) (by kernel_rfl) (fun K hK => ?_)
    simp only [Mix.pick]
    go_wp2
    refine ⟨rfl, hK _ _ ?_⟩
    clear hK K
    refine Mix.take [false, false, false, false, false, false, false, false, false, false, false, true, true] 1 (by kernel_rfl) (by kernel_rfl) (by decide) (by kernel_rfl) (fun K hK => ?_)
    simp only [Mix.pick]
    repeat (go_big_quiet_step (fail))
    refine wpQuiet_nil (hK _ ?_)
    clear hK K
    refine Mix.one [false, false, false, false, false, false, false, false, false, false, false, false, false, true] 0 13 _ rfl rfl (by kernel_rfl) (by kernel_rfl) (fun K hK => ?_)
    simp only [Mix.pick]
    go_wp2
    refine ⟨rfl, hK _ _ ?_⟩
    clear hK K
    refine Mix.done (by kernel_rfl) ?_
    go_wp2
    go_ret
    refine ⟨g, c, rfl, HBSM.out, ?_⟩
    have e7 : (7 - 7 : Nat) = 0 := rfl
    rw [e7, ← HY0.out]
    refine ⟨by rw [List.length_set]; exact HD.out.dl, (owns_seg_at HSTM.out).1, set_256 HD.out.d256 (by rw [HY0.out]; exact HXB.out 0 (by decide)), HC.out.1, HC.out.2, by have := HN.out; omega⟩
end Go.Proofs.YtmeieggnfmhnmaaDoor
