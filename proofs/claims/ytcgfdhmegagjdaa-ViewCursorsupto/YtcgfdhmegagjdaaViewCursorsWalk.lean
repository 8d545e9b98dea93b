/-
  The walk of ViewCursors.
-/
import Derived.Test.YtcgfdhmegagjdaaSteppedT
namespace Go.Proofs.Ytcgfdhmegagjdaa.viewCursors
open Go.RowKit

theorem cutA_zero (b n : Nat) : cutA (some ⟨b, 0, none⟩) 0 n = some ⟨b, 0, none⟩ := by
  unfold cutA
  split
  · rfl
  · simp [Addr.add]
/-- the wide rows and the cursors over them -/
structure K (w : World) (WA wac WD wdc C D : Nat) (bs ds : List Nat) (z : Nat) : Prop where
  a : w.ownsRow z 5 1 (.slice (some ⟨WA, 0, none⟩) (bs.length + 75) wac) (bs.length + 75) ((toI (bs ++ marks 75)).map (Value.int .u8))
  d : w.ownsRow z 5 1 (.slice (some ⟨WD, 0, none⟩) (ds.length + 75) wdc) (ds.length + 75) ((toI (ds ++ marks 75)).map (Value.int .u8))
  ca : Cur w C (some ⟨WA, 0, none⟩) bs.length 0
  cd : Cur w D (some ⟨WD, 0, none⟩) ds.length 0
theorem K.grown {w w1 : World} {WA wac WD wdc C D : Nat} {bs ds : List Nat} {z : Nat} {r : Option Nat} (h : K w WA wac WD wdc C D bs ds z) (hg : w.grownBy w1 r) (hr : ∀ b, r = some b → b ≠ WA ∧ b ≠ WD ∧ b ≠ C ∧ b ≠ D) : K w1 WA wac WD wdc C D bs ds z :=
  ⟨owns_kept h.a hg (fun b hb e => (hr b e.symm).1 (own_wide hb)), owns_kept h.d hg (fun b hb e => (hr b e.symm).2.1 (own_wide hb)), h.ca.grown hg (fun e => (hr _ e.symm).2.2.1 rfl), h.cd.grown hg (fun e => (hr _ e.symm).2.2.2 rfl)⟩
theorem K.below {w w1 : World} {WA wac WD wdc C D : Nat} {bs ds : List Nat} {z : Nat} (h : K w WA wac WD wdc C D bs ds z) (hg : Below w.heap.size w w1) : K w1 WA wac WD wdc C D bs ds z := h.grown (grown_below hg none) (by intro b hb; cases hb)

theorem rcur_new (w : World) (a : Option Addr) (len cap : Nat) (t : TypeId) : RCur (w.alloc (.cells #[.slice a len cap, .int .i64 0] t)) w.heap.size a len cap 0 :=
  ⟨by simp [go_sem], by simp [go_sem], fun j => by simp [go_sem], by simp⟩
theorem lit_grown {w w1 : World} {X : Obj} {r : Option Nat} (hg : (w.alloc X).grownBy w1 r) (hr : ∀ b, r = some b → w.heap.size ≤ b) : Below w.heap.size w w1 :=
  ((Below.refl w.heap.size w).alloc (Nat.le_refl _) X).grown hg (by simp) hr
theorem stepped_len (n0 : Nat) (w : World) (col : Nat → Nat) (c B R WB : Nat) (RA : Option Addr) (wc rc : Nat) (bs : List Nat) (p : Nat) (kd obj n : Int) (h : Side w col c B R WB RA wc rc bs p) (hl : bs.length = n0) (hn : n ≤ 9223372036854775807) :
    Calls Try.prog 29 #[.pointer (some ⟨B, 0, none⟩), .pointer (some ⟨R, 0, none⟩), .slice (some ⟨WB, 0, none⟩) (n0 + 75) wc, .agg #[.int .i64 kd, .int .i64 obj, .int .i64 n]] w fun e w' =>
      e = .returned (.bool true) ∧ ∃ bs' p', bs'.length = n0 ∧ Side w' col c B R WB RA wc rc bs' p' ∧ Off col c w w' := by
  subst hl
  exact stepped_any w col c B R WB RA wc rc bs p kd obj n h hn
theorem same_eq (a b : Option Addr) (n ca cb : Nat) (l : List Nat) (w : World) (hn : l.length = n) (hl : Seg .u8 w a (toI l)) (hm : Seg .u8 w b (toI l)) (hl2 : ∀ x ∈ l, x < 256) :
    Calls Try.prog 19 #[.slice a n ca, .slice b n cb] w fun e w' => e = .returned (.bool true) ∧ w = w' := by
  subst hn
  have := same_any a b ca cb l l w hl hm hl2 hl2
  rwa [decide_eq_true rfl] at this
theorem wide_256 (bs : List Nat) (h : ∀ x ∈ bs, x < 256) : ∀ x ∈ bs ++ marks 75, x < 256 := by
  intro x hx
  rcases List.mem_append.1 hx with hx | hx
  · exact h x hx
  · exact marks_lt 75 x hx
/-- whose is a block -/
def colOf (WA C R WD D S P : Nat) (k : Nat) : Nat :=
  if k = WA ∨ k = C ∨ k = R ∨ (P ≤ k ∧ k < R) then 1 else if k = WD ∨ k = D ∨ k = S ∨ (R < k ∧ k < S) then 2 else 0
theorem col1 {WA C R WD D S P k : Nat} (h : k = WA ∨ k = C ∨ k = R ∨ (P ≤ k ∧ k < R)) : colOf WA C R WD D S P k = 1 := if_pos h
theorem col2 {WA C R WD D S P k : Nat} (h0 : ¬ (k = WA ∨ k = C ∨ k = R ∨ (P ≤ k ∧ k < R))) (h : k = WD ∨ k = D ∨ k = S ∨ (R < k ∧ k < S)) : colOf WA C R WD D S P k = 2 := by unfold colOf; rw [if_neg h0, if_pos h]
theorem col0 {WA C R WD D S P k : Nat} (h0 : ¬ (k = WA ∨ k = C ∨ k = R ∨ (P ≤ k ∧ k < R))) (h : ¬ (k = WD ∨ k = D ∨ k = S ∨ (R < k ∧ k < S))) : colOf WA C R WD D S P k = 0 := by unfold colOf; rw [if_neg h0, if_neg h]
theorem colLow {WA C R WD D S P k c : Nat} (base : Nat) (h : colOf WA C R WD D S P k = c) (hc : c ≠ 0) (h1 : base ≤ WA) (h2 : base ≤ C) (h3 : base ≤ R) (h4 : base ≤ WD) (h5 : base ≤ D) (h6 : base ≤ S) (h7 : base ≤ P) : base ≤ k := by
  unfold colOf at h
  split at h
  · omega
  · split at h
    · omega
    · omega
theorem own_lit (W : World) (base : Nat) (h : base ≤ W.heap.size) : (W.alloc (.cells #[] 5)).ownsRow base 5 1 (.slice (some ⟨W.heap.size, 0, none⟩) 0 0) 0 [] :=
  World.ownsRow_made W #[] 0 h (Nat.zero_le _) rfl

set_option maxRecDepth 100000 in
set_option maxHeartbeats 1600000 in
theorem walk (w : World) (a0 : Option Addr) (len0 cap0 : Nat) (z0 : List Int) (_w0 : IsRow .u8 w a0 len0 cap0 z0) (_n0 : cap0 ≤ 1048576) (a1 : Option Addr) (len1 cap1 : Nat) (z1 : List Int) (_w1 : IsRow .u8 w a1 len1 cap1 z1) (_n1 : cap1 ≤ 1048576)
    (a2 : Option Addr) (len2 cap2 : Nat) (ops : List StepV) (hl : ops.length = len2) (hs : Steps w a2 ops) (hn : len2 ≤ 1048576) :
    Calls Try.prog 6 #[.slice a0 len0 cap0, .slice a1 len1 cap1, .slice a2 len2 cap2] w fun e w' => e = .returned (.bool true) ∧ Below w.heap.size w w' := by
  subst hl
  obtain ⟨bs, hbl, hbs, hb1, hb2, hb256⟩ := _w0.bytes
  obtain ⟨ds, hdl, hds, hd1, hd2, hd256⟩ := _w1.bytes
  have hl0 : len0 ≤ 1048576 := by omega
  have hl1 : len1 ≤ 1048576 := by omega
  clear _w0 _w1
  go_enter Try.func6, Try.ntmps6
  go_wp2_with fail
  refine (roomy_any a0 len0 cap0 bs w hbl hbs (by omega)).mono ?_
  rintro e w1 ⟨v1, rfl, ho1, hB1⟩
  go_wp2_with fail
  refine (roomy_any a1 len1 cap1 ds w1 hdl (hds.old hB1) (by omega)).mono ?_
  rintro e w2 ⟨v2, rfl, ho2, hB2⟩
  obtain ⟨WA, wac, rfl⟩ : ∃ g c, v1 = .slice (some ⟨g, 0, none⟩) (len0 + 75) c := by
    rcases ho1.2 with ⟨_, e2⟩ | ⟨g, cap, cur, e, _⟩
    · omega
    · exact ⟨g, cap, e⟩
  obtain ⟨WD, wdc, rfl⟩ : ∃ g c, v2 = .slice (some ⟨g, 0, none⟩) (len1 + 75) c := by
    rcases ho2.2 with ⟨_, e2⟩ | ⟨g, cap, cur, e, _⟩
    · omega
    · exact ⟨g, cap, e⟩
  have lA := ho1.lt WA rfl
  have lD := ho2.lt WD rfl
  obtain ⟨_, _, ea, _, _, ca1, ca2⟩ := owns_seg ho1
  obtain ⟨_, _, ed, _, _, cd1, cd2⟩ := owns_seg ho2
  simp only [Value.slice.injEq, true_and] at ea ed
  rw [← ea.2] at ca1 ca2
  rw [← ed.2] at cd1 cd2
  unfold maxLen at ca2 cd2
  clear ea ed
  have hA2 := owns_kept ho1 (grown_below hB2 none) (by intro b _; simp)
  have hD2 := owns_mono ho2 hB1.size
  have hBB2 : Below w.heap.size w w2 := hB1.trans (hB2.mono hB1.size)
  have hwa : len0 ≤ wac := by omega
  have hwd : len1 ≤ wdc := by omega
  go_wp2_with fail
  refine (at_any (some ⟨WA, 0, none⟩) len0 wac w2 (by omega) (by omega)).mono ?_
  rintro e w3 ⟨rfl, hw3⟩
  rw [cutA_zero] at hw3
  have cu3 := cur_new w2 (some ⟨WA, 0, none⟩) len0 94
  rw [← hw3] at cu3
  have s3 : w3.heap.size = w2.heap.size + 1 := by rw [hw3]; simp
  have b3 : Below w2.heap.size w2 w3 := by rw [hw3]; exact (Below.refl _ _).alloc (Nat.le_refl _) _
  obtain ⟨C, hC⟩ : ∃ C, C = w2.heap.size := ⟨_, rfl⟩
  rw [← hC] at cu3 ⊢
  have oC1 : WA < C := by have := hBB2.size; have := hB2.size; omega
  have oC2 : WD < C := by omega
  have oC3 : w.heap.size ≤ C := by have := hBB2.size; omega
  have oC4 : C < w3.heap.size := by omega
  clear hw3 s3 hC
  go_wp2_with fail
  refine (at_any (some ⟨WD, 0, none⟩) len1 wdc w3 (by omega) (by omega)).mono ?_
  rintro e w4 ⟨rfl, hw4⟩
  rw [cutA_zero] at hw4
  have cu4 := cur_new w3 (some ⟨WD, 0, none⟩) len1 94
  rw [← hw4] at cu4
  have s4 : w4.heap.size = w3.heap.size + 1 := by rw [hw4]; simp
  have b4 : Below w3.heap.size w3 w4 := by rw [hw4]; exact (Below.refl _ _).alloc (Nat.le_refl _) _
  obtain ⟨D, hD⟩ : ∃ D, D = w3.heap.size := ⟨_, rfl⟩
  rw [← hD] at cu4 ⊢
  have oD1 : C < D := by omega
  have oD4 : D < w4.heap.size := by omega
  clear hw4 s4 hD
  have hB4 : Below w.heap.size w w4 := (hBB2.trans (b3.mono hBB2.size)).trans (b4.mono (by omega))
  have hK4 : K w4 WA wac WD wdc C D bs ds w.heap.size := by
    subst hbl hdl
    exact ⟨owns_kept (owns_kept hA2 (grown_below b3 none) (by intro b _; simp)) (grown_below b4 none) (by intro b _; simp),
      owns_kept (owns_kept hD2 (grown_below b3 none) (by intro b _; simp)) (grown_below b4 none) (by intro b _; simp), cu3.below b4, cu4⟩
  clear hA2 hD2 cu3 cu4 b3 b4 ho1 ho2 hB1 hB2
  go_wp2_with fail
  refine (at_any (some ⟨w4.heap.size, 0, none⟩) 3 3 _ (by omega) (by omega)).mono ?_
  rintro e w6 ⟨rfl, hw6⟩
  rw [cutA_zero] at hw6
  have hsz : Seg .u8 (w4.alloc (.cells #[.int .u8 1, .int .u8 2, .int .u8 3] 5)) (some ⟨w4.heap.size, 0, none⟩) (toI [1, 2, 3]) := seg_new3 w4 .u8 5 [1, 2, 3]
  have cu6 := cur_new (w4.alloc (.cells #[.int .u8 1, .int .u8 2, .int .u8 3] 5)) (some ⟨w4.heap.size, 0, none⟩) 3 94
  rw [← hw6] at cu6
  have b6 : Below w4.heap.size w4 w6 := by rw [hw6]; exact ((Below.refl _ _).alloc (Nat.le_refl _) _).alloc (by simp) _
  have hsz6 : Seg .u8 w6 (some ⟨w4.heap.size, 0, none⟩) (toI [1, 2, 3]) := by rw [hw6]; exact hsz.old ((Below.refl _ _).alloc (Nat.le_refl _) _)
  obtain ⟨Z, hZ⟩ : ∃ Z, Z = (w4.alloc (.cells #[.int .u8 1, .int .u8 2, .int .u8 3] 5)).heap.size := ⟨_, rfl⟩
  rw [← hZ] at cu6 ⊢
  have oZ1 : w4.heap.size < Z := by rw [hZ]; simp
  have oZ2 : Z < w6.heap.size := cu6.lt
  obtain ⟨ZB, hZB⟩ : ∃ ZB, ZB = w4.heap.size := ⟨_, rfl⟩
  rw [← hZB] at cu6 hsz6 ⊢
  have oZB : ZB < Z := by omega
  have hK6 := hK4.below b6
  have hB6 : Below w.heap.size w w6 := hB4.trans (b6.mono hB4.size)
  clear hw6 hZ hZB hsz hK4 hB4 b6
  have hu := curUint_total Z (some ⟨ZB, 0, none⟩) 0 2 [1, 2, 3] w6 cu6 hsz6 (by decide) (by decide) (by decide)
  rw [show uV [1, 2, 3] ((0 : Nat) : Int) 2 = 258 from by decide, show uE ([1, 2, 3] : List Nat).length ((0 : Nat) : Int) 2 = 0 from by decide] at hu
  have HU : Hid _ := hu
  clear hu
  go_wp2_with fail
  refine Calls.mono HU.out ?_
  rintro e w7 ⟨rfl, cu7, hg7⟩
  have hK7 := hK6.grown hg7 (by intro b hb; cases hb; omega)
  have hB7 : Below w.heap.size w w7 := hB6.grown hg7 hB6.size (by intro j hj; cases hj; omega)
  have oZ3 : Z < w7.heap.size := cu7.lt
  clear hg7 hK6 hB6 cu6 hsz6
  obtain ⟨i0, hi, hz0, hz1, hz2⟩ := info_parts Try.infoByte
  have HBL : Hid ((toI bs).length = len0) := by show _ = _; rw [toI_len, hbl]
  have HDL : Hid ((toI ds).length = len1) := by show _ = _; rw [toI_len, hdl]
  have HBS : Hid (bs.length = len0) := hbl
  have HDS : Hid (ds.length = len1) := hdl
  have hbs7 := hbs.old hB7
  clear hbl hdl hbs
  go_wp2_with (first
    | (go_at_call 9; refine (num_any _ _).mono ?_; rintro e w' ⟨rfl, rfl⟩)
    | (at_builtin; refine wpList_append_seg rfl (.tmp 57) (.tmp 58) 22 rfl w7.heap.size 5 i0 (.int .u8 0) 1 Try.underlying22 hi hz0 hz1 hz2 rfl (.slice (some ⟨w7.heap.size, 0, none⟩) 0 0) 0 [] rfl (own_lit _ _ (Nat.le_refl _)) .u8 a0 len0 cap0 (toI bs) rfl HBL.out (hbs7.old ((Below.refl _ _).alloc (Nat.le_refl _) _)) (by unfold maxLen; omega) (by omega) (by simp) ?_))
  intro v8 w8 ho8 hg8
  have b8 : Below w7.heap.size w7 w8 := lit_grown hg8 (by intro b hb; simp [Value.ownBlock] at hb; omega)
  obtain ⟨RA, rac, rfl⟩ := owns_shape ho8
  have lR := ho8.lt
  have hB8 : Below w.heap.size w w8 := hB7.trans (b8.mono hB7.size)
  have hK8 := hK7.below b8
  have cu8 := cu7.below b8
  have oZ8 : Z < w8.heap.size := cu8.lt
  have hds8 := hds.old hB8
  have hs78 := hB7.size
  have oP : w7.heap.size ≤ w8.heap.size := b8.size
  clear hg8 hK7 cu7 hB7 b8 hbs7 hds
  go_wp2_with (first
    | (at_builtin; refine wpList_append_seg rfl (.tmp 62) (.tmp 63) 22 rfl (w8.heap.size + 1) 5 i0 (.int .u8 0) 1 Try.underlying22 hi hz0 hz1 hz2 rfl (.slice (some ⟨w8.heap.size + 1, 0, none⟩) 0 0) 0 [] rfl (by have := own_lit (w8.alloc (.cells #[.slice RA len0 rac, .int .i64 0] 66)) (w8.heap.size + 1) (by simp); simpa using this) .u8 a1 len1 cap1 (toI ds) rfl HDL.out (hds8.old (((Below.refl _ _).alloc (Nat.le_refl _) _).alloc (by simp) _)) (by unfold maxLen; omega) (by omega) (by simp) ?_))
  intro v9 w9 ho9 hg9
  have a8 : Below w8.heap.size w8 (w8.alloc (.cells #[.slice RA len0 rac, .int .i64 0] 66)) := (Below.refl _ _).alloc (Nat.le_refl _) _
  have rc8 := rcur_new w8 RA len0 rac 66
  have b9 : Below (w8.alloc (.cells #[.slice RA len0 rac, .int .i64 0] 66)).heap.size (w8.alloc (.cells #[.slice RA len0 rac, .int .i64 0] 66)) w9 := lit_grown hg9 (by intro b hb; simp [Value.ownBlock] at hb; simp; omega)
  have rc9 := rc8.below b9
  have b89 : Below w8.heap.size w8 w9 := a8.trans (b9.mono a8.size)
  obtain ⟨SA, sac, rfl⟩ := owns_shape ho9
  have lS := ho9.lt
  have hB9 : Below w.heap.size w w9 := hB8.trans (b89.mono hB8.size)
  have hK9 := hK8.below b89
  have cu9 := cu8.below b89
  have ho89 := owns_kept ho8 (grown_below b89 none) (by intro b _; simp)
  obtain ⟨R, hR⟩ : ∃ R, R = w8.heap.size := ⟨_, rfl⟩
  rw [← hR] at rc9 lS ⊢
  have oR1 : w8.heap.size ≤ R := by omega
  have oR2 : R < w9.heap.size := rc9.lt
  have hRx : ∀ b, (Value.slice RA len0 rac).ownBlock = some b → w7.heap.size ≤ b ∧ b < R := by intro b hb; have := lR b hb; omega
  clear hg9 hK8 cu8 hB8 b9 b89 hds8 a8 rc8 ho8 lR hR
  have cs9 := rcur_new w9 SA len1 sac 66
  obtain ⟨wL, hwL⟩ : ∃ wL, wL = w9.alloc (.cells #[.slice SA len1 sac, .int .i64 0] 66) := ⟨_, rfl⟩
  rw [← hwL] at cs9
  have bL : Below w9.heap.size w9 wL := by rw [hwL]; exact (Below.refl _ _).alloc (Nat.le_refl _) _
  obtain ⟨S, hS⟩ : ∃ S, S = w9.heap.size := ⟨_, rfl⟩
  obtain ⟨P, hP⟩ : ∃ P, P = w7.heap.size := ⟨_, rfl⟩
  have HwL : Hid (wL = w9.alloc (.cells #[.slice SA len1 sac, .int .i64 0] 66)) := hwL
  rw [← hS] at cs9
  have oS1 : R < S := by omega
  have oS2 : w9.heap.size ≤ S := by omega
  have hSx : ∀ b, (Value.slice SA len1 sac).ownBlock = some b → R < b ∧ b < S := by intro b hb; have := lS b hb; omega
  have hRx' : ∀ b, (Value.slice RA len0 rac).ownBlock = some b → P ≤ b ∧ b < R := by intro b hb; have := hRx b hb; omega
  have oP2 : P ≤ R := by omega
  have oP3 : Z < P := by omega
  have oP4 : w.heap.size ≤ P := by omega
  have oWD : WA < WD := by omega
  have hKL := hK9.below bL
  have cuL := cu9.below bL
  have hBL : Below w.heap.size w wL := hB9.trans (bL.mono hB9.size)
  have hside1 : Side wL (colOf WA C R WD D S P) 1 C R WA RA wac rac bs 0 := by
    have e := HBS.out
    refine ⟨hKL.ca, by rw [e]; exact rc9.below bL, owns_mono hKL.a (Nat.zero_le _), by rw [e]; exact owns_mono (owns_kept ho89 (grown_below bL none) (by intro b _; simp)) (Nat.zero_le _), hb256, Nat.zero_le _, by omega, col1 (by omega), col1 (by omega), col1 (by omega), ?_, by omega, by omega, by omega⟩
    rw [e]
    intro b hb
    have := hRx' b hb
    exact ⟨col1 (by omega), by omega, by omega, by omega⟩
  have hside2 : Side wL (colOf WA C R WD D S P) 2 D S WD SA wdc sac ds 0 := by
    have e := HDS.out
    refine ⟨hKL.cd, by rw [e]; exact cs9, owns_mono hKL.d (Nat.zero_le _), by rw [e]; exact owns_mono (owns_kept ho9 (grown_below bL none) (by intro b _; simp)) (Nat.zero_le _), hd256, Nat.zero_le _, by omega, col2 (by omega) (by omega), col2 (by omega) (by omega), col2 (by omega) (by omega), ?_, by omega, by omega, by omega⟩
    rw [e]
    intro b hb
    have := hSx b hb
    exact ⟨col2 (by omega) (by omega), by omega, by omega, by omega⟩
  have hZc : colOf WA C R WD D S P Z = 0 := col0 (by omega) (by omega)
  have hlow : ∀ c, c ≠ 0 → ∀ b, colOf WA C R WD D S P b = c → w.heap.size ≤ b := fun c hc b hb => colLow w.heap.size hb hc (by omega) (by omega) (by omega) (by omega) (by omega) (by omega) (by omega)
  obtain ⟨col, hcol⟩ : ∃ col, col = colOf WA C R WD D S P := ⟨_, rfl⟩
  rw [← hcol] at hside1 hside2 hZc hlow
  have HZC : Hid (col Z = 0) := hZc
  have HS1 : Hid (S = w9.heap.size) := hS
  clear hcol hZc hwL hS hP ho9 ho89 hK9 hKL cu9 lS hRx hSx hRx' bL hB9 cs9 rc9 HU
  go_wp2
  rw [← HwL.out, ← HS1.out]
  go_loopw [16] (fun ix wr => ∃ (k p q : Nat) (xs ys : List Nat), k ≤ ops.length ∧ ix = .int .i64 k ∧ Hid (xs.length = len0) ∧ Hid (ys.length = len1) ∧ Side wr col 1 C R WA RA wac rac xs p ∧ Side wr col 2 D S WD SA wdc sac ys q ∧ Cur wr Z (some ⟨ZB, 0, none⟩) 3 2 ∧ Below w.heap.size w wr) (fun ix _ => ops.length - (intOf ix).toNat)
  case atStart => exact ⟨0, 0, 0, bs, ds, Nat.zero_le _, rfl, HBS, HDS, hside1, hside2, cuL, hBL⟩
  case round =>
    obtain ⟨k, p, q, xs, ys, hk, rfl, HX, HY, hs1, hs2, hcz, hbel⟩ := hrel
    clear hside1 hside2 cuL hBL HwL
    by_cases hlt : k < ops.length
    · obtain ⟨o, ho⟩ : ∃ o, ops[k]? = some o := ⟨ops[k], by simp [hlt]⟩
      obtain ⟨b, off, rfl⟩ : ∃ b off, a2 = some ⟨b, off, none⟩ := by
        rcases hs with hnil | ⟨b, off, e, _, _⟩
        · rw [hnil] at hlt; simp at hlt
        · exact ⟨b, off, e⟩
      obtain ⟨q0, q1, q2, hon⟩ := steps_cells (hs.old hbel) k o ho
      clear ho
      by_cases hobj : o.obj = 1
      · rw [hobj] at q1
        go_wp2_with fail
        refine (stepped_len len1 wr col 2 D S WD SA wdc sac ys q o.kd 1 o.n hs2 HY.out hon).mono ?_
        rintro e w' ⟨rfl, ys', q', hyl, hs2', hof⟩
        have HY' : Hid (ys'.length = len1) := hyl
        have hs1' := hs1.off hof (by decide)
        have hcz' := hof.cur (by rw [HZC.out]; decide) hcz
        have hB' := hof.low hbel hbel.size (hlow 2 (by decide))
        clear hyl hof hs1 hs2 hcz hbel q0 q1 q2
        go_wp2
        go_roundw
        case rel => exact ⟨k + 1, p, q', xs, ys', by omega, by go_num, HX, HY', hs1', hs2', hcz', hB'⟩
        case measure => simp [intOf]; omega
      · have hd : (o.obj == 1) = false := beq_eq_false_iff_ne.2 hobj
        go_wp2_with fail
        refine (stepped_len len0 wr col 1 C R WA RA wac rac xs p o.kd o.obj o.n hs1 HX.out hon).mono ?_
        rintro e w' ⟨rfl, xs', p', hxl, hs1', hof⟩
        have HX' : Hid (xs'.length = len0) := hxl
        have hs2' := hs2.off hof (by decide)
        have hcz' := hof.cur (by rw [HZC.out]; decide) hcz
        have hB' := hof.low hbel hbel.size (hlow 1 (by decide))
        clear hxl hof hs1 hs2 hcz hbel q0 q1 q2
        go_wp2
        go_roundw
        case rel => exact ⟨k + 1, p', q, xs', ys, by omega, by go_num, HX', HY, hs1', hs2', hcz', hB'⟩
        case measure => simp [intOf]; omega
    · go_wp2_with fail
      refine (curLeft_any Z _ 3 2 wr hcz (by decide) (by decide)).mono ?_
      rintro e u1 ⟨rfl, hbu1⟩
      have t1 := hs1.low hbu1
      have t2 := hs2.low hbu1
      have hbl1 : Below w.heap.size w u1 := hbel.trans (hbu1.mono hbel.size)
      have r0 := t1.ref.c0
      rw [HX.out] at r0
      go_wp2_with fail
      refine (roomy_any RA len0 rac xs u1 HX.out t1.rseg (by omega)).mono ?_
      rintro e u2 ⟨x1, rfl, hx1, hbu2⟩
      obtain ⟨xa, xc, rfl, hxs, _, _, _⟩ := owns_seg hx1
      have t3 := t1.low hbu2
      have t4 := t2.low hbu2
      have hbl2 : Below w.heap.size w u2 := hbl1.trans (hbu2.mono hbl1.size)
      have HS1 : Hid _ := same_eq (some ⟨WA, 0, none⟩) xa (len0 + 75) wac xc (xs ++ marks 75) u2 (by rw [List.length_append, marks_len, HX.out]) (owns_seg_at t3.wide) hxs (wide_256 xs t3.b256)
      clear r0 t1 t2 hs1 hs2
      go_wp2_with fail
      refine Calls.mono HS1.out ?_
      rintro e u3 ⟨rfl, rfl⟩
      have s0 := t4.ref.c0
      rw [HY.out] at s0
      go_wp2_with fail
      refine (roomy_any SA len1 sac ys u2 HY.out t4.rseg (by omega)).mono ?_
      rintro e u4 ⟨x2, rfl, hx2, hbu4⟩
      obtain ⟨ya, yc, rfl, hys, _, _, _⟩ := owns_seg hx2
      have t5 := t4.low hbu4
      have hbl4 : Below w.heap.size w u4 := hbl2.trans (hbu4.mono hbl2.size)
      have HS2 : Hid _ := same_eq (some ⟨WD, 0, none⟩) ya (len1 + 75) wdc yc (ys ++ marks 75) u4 (by rw [List.length_append, marks_len, HY.out]) (owns_seg_at t5.wide) hys (wide_256 ys t5.b256)
      clear s0 t3 t4
      go_wp2_with fail
      refine Calls.mono HS2.out ?_
      rintro e u5 ⟨rfl, rfl⟩
      go_wp2
      go_ret
      exact ⟨rfl, hbl4⟩
end Go.Proofs.Ytcgfdhmegagjdaa.viewCursors
