/-
  The walk of ViewLent.
-/
import Derived.Test.YtcgfdhmegagjdaaFamI
import Derived.Test.YtcgfdhmegagjdaaFamStand
import Derived.Test.YtcgfdhmegagjdaaActedD
namespace Go.Proofs.Ytcgfdhmegagjdaa.viewLent
open Go.RowKit Ls

theorem bs_new (B x : Nat) (h : BS B (.slice none 0 0) x) : x = B := by
  rcases h with h | h
  · exact h
  · simp [Value.ownBlock] at h
theorem ls_new (w w' : World) (X : Nat) (hX : X = w.heap.size) (hc : ∀ f, f < 4 → w'.cell? ⟨X, f, none⟩ = some (.slice none 0 0)) (hf : ∀ j, w'.frozen? ⟨X, j, none⟩ = false) (hs : X < w'.heap.size) (hb : Below w.heap.size w w') :
    LS 4 tyL etL w w' X (fun q => if q = X then 1 else 0) (fun _ => 0) (fun _ => .slice none 0 0) (fun _ _ => .slice none 0 0) (fun _ _ => []) :=
  ⟨hc, hf, fun _ _ => World.ownsRow_nil _ _ _ _, fun _ _ i hi => by omega, by simp, fun _ _ q hq => by simp [Value.ownBlock] at hq, fun _ _ i hi => by omega, by omega, hs, fun q hq => by rw [if_neg (by omega)], hb⟩
theorem good_new : Ls.Good (fun _ => 0) (fun _ _ => []) := ⟨rfl, rfl, fun i hi => by omega, fun i hi => by omega⟩
/-- what stands in a list of two builders' answers -/
def lens (N : Nat → Nat) (C : Nat → Nat → List Value) : Prop := ∀ i, i < N 0 → (C 0 i).length ≤ 65535
theorem good_asked {N N' : Nat → Nat} {R R' : Nat → Nat → Value} {C C' : Nat → Nat → List Value} {L F : List Nat} (hg : Ls.Good N C) (hl : lens N C) (hN : ∀ f, f < 4 → N' f = N f + 1) (hRC : ∀ f, f < 4 → ∀ i, i < N f → R' f i = R f i ∧ C' f i = C f i)
    (hb : C' 0 (N 0) = (toI L).map (Value.int .u8) ∧ C' 1 (N 1) = (toI L).map (Value.int .u8) ∧ L.length ≤ 256 ∧ ∀ x ∈ L, x < 256) (hi : C' 2 (N 2) = (toI F).map (Value.int .i64) ∧ C' 3 (N 3) = (toI F).map (Value.int .i64) ∧ F.length ≤ 64) : Ls.Good N' C' ∧ lens N' C' := by
  refine ⟨⟨by rw [hN 1 (by decide), hN 0 (by decide), hg.e0], by rw [hN 3 (by decide), hN 2 (by decide), hg.e2], fun i hi' => ?_, fun i hi' => ?_⟩, fun i hi' => ?_⟩
  · rw [hN 0 (by decide)] at hi'
    by_cases e : i = N 0
    · subst e
      have := hg.e0
      exact ⟨L, hb.1, by rw [← this]; exact hb.2.1, hb.2.2.2⟩
    · rw [(hRC 0 (by decide) i (by omega)).2, (hRC 1 (by decide) i (by have := hg.e0; omega)).2]
      exact hg.b i (by omega)
  · rw [hN 2 (by decide)] at hi'
    by_cases e : i = N 2
    · subst e
      have := hg.e2
      exact ⟨F, hi.1, by rw [← this]; exact hi.2.1, hi.2.2⟩
    · rw [(hRC 2 (by decide) i (by omega)).2, (hRC 3 (by decide) i (by have := hg.e2; omega)).2]
      exact hg.n i (by omega)
  · rw [hN 0 (by decide)] at hi'
    by_cases e : i = N 0
    · subst e
      rw [hb.1]; simp [toI]; omega
    · rw [(hRC 0 (by decide) i (by omega)).2]
      exact hl i (by omega)
theorem good_two {N N1 N2 : Nat → Nat} {C C1 C2 : Nat → Nat → List Value} (hg : Ls.Good N C) (hl : lens N C) (h1 : N1 0 = N 0 + 1) (h1' : ∀ g, g ≠ 0 → N1 g = N g) (h2 : N2 1 = N1 1 + 1) (h2' : ∀ g, g ≠ 1 → N2 g = N1 g)
    (c1 : ∀ g i, i < N g → C1 g i = C g i) (c2 : ∀ g i, i < N1 g → C2 g i = C1 g i) (d1 : C1 0 (N 0) = (toI [2, 3]).map (Value.int .u8)) (d2 : C2 1 (N1 1) = (toI [2, 3]).map (Value.int .u8)) : Ls.Good N2 C2 ∧ lens N2 C2 := by
  have e0 := hg.e0
  have e2 := hg.e2
  have n0 : N2 0 = N 0 + 1 := by rw [h2' 0 (by decide), h1]
  have n1 : N2 1 = N 1 + 1 := by rw [h2, h1' 1 (by decide)]
  have n2 : N2 2 = N 2 := by rw [h2' 2 (by decide), h1' 2 (by decide)]
  have n3 : N2 3 = N 3 := by rw [h2' 3 (by decide), h1' 3 (by decide)]
  have m1 : N1 1 = N 1 := h1' 1 (by decide)
  have m2 : N1 2 = N 2 := h1' 2 (by decide)
  have m3 : N1 3 = N 3 := h1' 3 (by decide)
  have q0 : C2 0 (N 0) = (toI [2, 3]).map (Value.int .u8) := by rw [c2 0 (N 0) (by rw [h1]; omega), d1]
  have q1 : C2 1 (N 0) = (toI [2, 3]).map (Value.int .u8) := by rw [show N 0 = N1 1 by omega, d2]
  refine ⟨⟨by omega, by omega, fun i hi => ?_, fun i hi => ?_⟩, fun i hi => ?_⟩
  · by_cases e : i = N 0
    · subst e
      exact ⟨[2, 3], q0, q1, by simp⟩
    · rw [c2 0 i (by omega), c1 0 i (by omega), c2 1 i (by omega), c1 1 i (by omega)]
      exact hg.b i (by omega)
  · rw [c2 2 i (by omega), c1 2 i (by omega), c2 3 i (by omega), c1 3 i (by omega)]
    exact hg.n i (by omega)
  · by_cases e : i = N 0
    · subst e; rw [q0]; simp [toI]
    · rw [c2 0 i (by omega), c1 0 i (by omega)]
      exact hl i (by omega)
theorem cell_ptr2 (w : World) (x : Value) (t : TypeId) (n : Nat) (hn : n = w.heap.size) : ∀ j u, [x][j]? = some u → (w.alloc (.cells #[x] t)).cell? ((⟨n, 0, none⟩ : Addr).add j) = some u := by subst hn; exact cell_ptr' w x t
/-- the longer ones of the numbers -/
def MemI (n : Nat → Nat) (F : List Fi.Sl) (V G : Nat → Value) (N i : Nat) : Prop := (∀ j, j < N → (⟨j, V j, n j⟩ : Fi.Sl) ∈ F) ∧ ∀ j, j < i → (⟨j, G j, n j + 70⟩ : Fi.Sl) ∈ F
theorem MemI.next {n : Nat → Nat} {F F' : List Fi.Sl} {V G : Nat → Value} {N i : Nat} {g : Value} (h : MemI n F V G N i) (hF : ∀ r ∈ F, r ∈ F') (hg : (⟨i, g, n i + 70⟩ : Fi.Sl) ∈ F') : MemI n F' V (upd G i g) N (i + 1) := by
  refine ⟨fun j hj => hF _ (h.1 j hj), fun j hj => ?_⟩
  by_cases e : j = i
  · subst e; rw [upd_same]; exact hg
  · rw [upd_other _ _ _ e]; exact hF _ (h.2 j (by omega))
theorem row_next (G : Nat → Value) (i : Nat) (g : Value) : (List.range i).map G ++ [g] = (List.range (i + 1)).map (upd G i g) := by
  rw [List.range_succ, List.map_append, List.map_cons, List.map_nil, upd_same]
  congr 1
  exact List.map_congr_left (fun k hk => (upd_other _ _ _ (by have := List.mem_range.1 hk; omega)).symm)
def sLen : Value → Nat
  | .slice _ l _ => l
  | _ => 0
def wy (i : Nat) : Nat := if i = 2 ∨ i = 3 ∨ i = 5 then 1 else 0

set_option maxRecDepth 100000 in
set_option maxHeartbeats 6400000 in
theorem walk (w : World) (a0' : Option Addr) (len0 cap0 : Nat) (z0 : List Int) (_w0 : IsRow .u8 w a0' len0 cap0 z0) (_n0 : cap0 ≤ 1048576) (a1' : Option Addr) (len1 cap1 : Nat) (z1 : List Int) (_w1 : IsRow .u8 w a1' len1 cap1 z1) (_n1 : cap1 ≤ 1048576)
    (a2' : Option Addr) (len2 cap2 : Nat) (z2 : List Int) (_w2 : IsRow .i64 w a2' len2 cap2 z2) (_n2 : cap2 ≤ 1048576) (a3' : Option Addr) (len3 cap3 : Nat) (z3 : List Int) (_w3 : IsRow .i64 w a3' len3 cap3 z3) (_n3 : cap3 ≤ 1048576)
    (a4' : Option Addr) (len4 cap4 : Nat) (z4 : List Int) (_w4 : IsRow .i64 w a4' len4 cap4 z4) (_n4 : cap4 ≤ 1048576) (a5' : Option Addr) (len5 cap5 : Nat) (z5 : List Int) (_w5 : IsRow .i64 w a5' len5 cap5 z5) (_n5 : cap5 ≤ 1048576) :
    Calls Try.prog 7 #[.slice a0' len0 cap0, .slice a1' len1 cap1, .slice a2' len2 cap2, .slice a3' len3 cap3, .slice a4' len4 cap4, .slice a5' len5 cap5] w fun e w' => e = .returned (.bool true) ∧ Below w.heap.size w w' := by
  obtain ⟨bA, hbAl, hbAs, hbA1, _, hbA256⟩ := _w0.bytes
  obtain ⟨bB, hbBl, hbBs, hbB1, _, hbB256⟩ := _w1.bytes
  obtain ⟨s2, hs2l, hs2s, hs2c, _, _⟩ := _w2.seg
  obtain ⟨s3, hs3l, hs3s, hs3c, _, _⟩ := _w3.seg
  obtain ⟨s4, hs4l, hs4s, hs4c, _, _⟩ := _w4.seg
  obtain ⟨s5, hs5l, hs5s, hs5c, _, _⟩ := _w5.seg
  have HAA : Hid (∀ (w0 W : World) (X : Nat) (col N : Nat → Nat) (lv : Nat → Value) (R : Nat → Nat → Value) (C : Nat → Nat → List Value), Below w.heap.size w W → LS 4 tyL etL w0 W X col N lv R C → (∀ f, f < 4 → N f ≤ 100) → Calls Try.prog 30 #[.pointer (some ⟨X, 0, none⟩), .slice a0' len0 cap0, .slice a2' len2 cap2, .slice a3' len3 cap3] W fun e w' => e = .returned (.bool true) ∧ Asked w0 W X col N R C w') :=
    fun w0 W X col N lv R C hW h hN => asked_any w0 W X col N lv R C h hN a0' a2' a3' len0 cap0 len2 cap2 len3 cap3 bA s2 s3 hbAl (hbAs.old hW) hbA256 hbA1 (by omega) hs2l (hs2s.old hW) (by omega) hs3l (hs3s.old hW)
  have HAB : Hid (∀ (w0 W : World) (X : Nat) (col N : Nat → Nat) (lv : Nat → Value) (R : Nat → Nat → Value) (C : Nat → Nat → List Value), Below w.heap.size w W → LS 4 tyL etL w0 W X col N lv R C → (∀ f, f < 4 → N f ≤ 100) → Calls Try.prog 30 #[.pointer (some ⟨X, 0, none⟩), .slice a1' len1 cap1, .slice a4' len4 cap4, .slice a5' len5 cap5] W fun e w' => e = .returned (.bool true) ∧ Asked w0 W X col N R C w') :=
    fun w0 W X col N lv R C hW h hN => asked_any w0 W X col N lv R C h hN a1' a4' a5' len1 cap1 len4 cap4 len5 cap5 bB s4 s5 hbBl (hbBs.old hW) hbB256 hbB1 (by omega) hs4l (hs4s.old hW) (by omega) hs5l (hs5s.old hW)
  clear _w0 _w1 _w2 _w3 _w4 _w5 _n0 _n1 _n2 _n3 _n4 _n5 hbAl hbAs hbA1 hbA256 hbBl hbBs hbB1 hbB256 hs2l hs2s hs2c hs3l hs3s hs3c hs4l hs4s hs4c hs5l hs5s hs5c
  obtain ⟨j0, gi, gz0, gz1, gz2⟩ := info_parts Try.infoSl
  obtain ⟨k0, ki, kz0, kz1, kz2⟩ := info_parts Try.infoIl
  go_enter Try.func7, Try.ntmps7
  go_wp2_with fail
  refine (newB_ok 65535 w (by decide)).mono ?_
  rintro e w1 ⟨rfl, hD1, hw1'⟩
  have b1 : Below w.heap.size w w1 := by rw [hw1']; exact (Below.refl _ _).alloc (Nat.le_refl _) _
  obtain ⟨D, hDe⟩ : ∃ D, D = w.heap.size := ⟨_, rfl⟩
  rw [← hDe] at hD1 ⊢
  have hDlo : w.heap.size ≤ D := by omega
  clear hw1' hDe
  go_wp2_with (first | (go_at_call 9; refine (num_any _ _).mono ?_; rintro e w' ⟨rfl, rfl⟩))
  refine (putB_ok D (.slice none 0 0) 65535 [] 2 515 w1 hD1 (by decide) (by decide) (by decide) (by decide) (by decide)).mono ?_
  rintro e w2 ⟨rfl, vd, hD2, hq2, hch2⟩
  rw [show ([] : List Nat) ++ byN 2 515 = [2, 3] from by decide] at hD2
  have b2 : Below w.heap.size w w2 := b1.trans (hch2.below (fun x hx => by rw [bs_new D x hx]; exact hDlo) b1.size)
  clear hch2 hq2 hD1 b1
  go_upto_region 7 with (first | (go_at_call 9; refine (num_any _ _).mono ?_; rintro e w' ⟨rfl, rfl⟩))
  obtain ⟨w5, hw5⟩ : ∃ w5, w5 = (w2.alloc (.cells #[.slice none 0 0, .slice none 0 0, .slice none 0 0, .slice none 0 0] 74)).alloc (.cells #[.int .i64 0, .int .i64 0, .int .i64 1, .int .i64 1, .int .i64 0, .int .i64 1] 75) := ⟨_, rfl⟩
  have b5 : Below w2.heap.size w2 w5 := by rw [hw5]; exact ((Below.refl _ _).alloc (Nat.le_refl _) _).alloc (by simp) _
  have hsz5 : w5.heap.size = w2.heap.size + 2 := by rw [hw5]; simp
  have hLS5 := ls_new w2 w5 w2.heap.size rfl (by
    intro f hf
    rw [hw5]
    match f, hf with
    | 0, _ => simp [go_sem]
    | 1, _ => simp [go_sem]
    | 2, _ => simp [go_sem]
    | 3, _ => simp [go_sem]) (by intro j; rw [hw5]; simp [go_sem]) (by omega) b5
  have hway5 : ∀ i, i < 6 → w5.cell? ⟨w2.heap.size + 1, i, none⟩ = some (.int .i64 ((wy i : Nat) : Int)) := by
    intro i hi
    rw [hw5]
    match i, hi with
    | 0, _ => simp [go_sem, wy]
    | 1, _ => simp [go_sem, wy]
    | 2, _ => simp [go_sem, wy]
    | 3, _ => simp [go_sem, wy]
    | 4, _ => simp [go_sem, wy]
    | 5, _ => simp [go_sem, wy]
  rw [← hw5]
  obtain ⟨X, hX⟩ : ∃ X, X = w2.heap.size := ⟨_, rfl⟩
  obtain ⟨WB, hWB⟩ : ∃ WB, WB = w2.heap.size + 1 := ⟨_, rfl⟩
  rw [← hWB] at hway5 ⊢
  have hWlt5 : WB < w5.heap.size := by omega
  have hWcol5 : (if WB = w2.heap.size then 1 else 0) = 0 := if_neg (by omega)
  rw [← hX] at hLS5 hWcol5 ⊢
  have hXl : w2.heap.size ≤ X := by omega
  clear hw5 hsz5 hX hWB
  go_loopw [17] (fun ix wr => ∃ (i : Nat) (col N : Nat → Nat) (lv : Nat → Value) (R : Nat → Nat → Value) (C : Nat → Nat → List Value), i ≤ 6 ∧ ix = .int .i64 i ∧ LS 4 tyL etL w2 wr X col N lv R C ∧ (N 0 = 2 * i ∧ N 1 = 2 * i ∧ N 2 = i ∧ N 3 = i) ∧ Ls.Good N C ∧ lens N C ∧ col WB = 0 ∧ WB < wr.heap.size ∧ ∀ j, j < 6 → wr.cell? ⟨WB, j, none⟩ = some (.int .i64 ((wy j : Nat) : Int))) (fun ix _ => 6 - (intOf ix).toNat)
  case atStart => exact ⟨0, _, _, _, _, _, by omega, rfl, hLS5, ⟨rfl, rfl, rfl, rfl⟩, good_new, (by intro i hi; simp at hi), hWcol5, hWlt5, hway5⟩
  case round =>
  clear hLS5 hway5 hWcol5 hWlt5 b5
  obtain ⟨i, col, N, lv, R, C, hi6, rfl, hLS, ⟨e0, e1, e2, e3⟩, hgood, hlens, hWcol, hWlt, hway⟩ := hrel
  have hbw : Below w.heap.size w wr := b2.trans (hLS.ch.mono b2.size)
  have hN100 : ∀ f, f < 4 → N f ≤ 100 := by
    intro f hf
    match f, hf with
    | 0, _ => omega
    | 1, _ => omega
    | 2, _ => omega
    | 3, _ => omega
  by_cases hlt : i < 6
  · have cw := hway i hlt
    obtain ⟨y, hy⟩ : ∃ y, y = wy i := ⟨_, rfl⟩
    rw [← hy] at cw
    have HE : Hid (N 0 = 2 * i ∧ N 1 = 2 * i ∧ N 2 = i ∧ N 3 = i) := ⟨e0, e1, e2, e3⟩
    have HWAY : Hid (∀ j, j < 6 → wr.cell? ⟨WB, j, none⟩ = some (.int .i64 ((wy j : Nat) : Int))) := hway
    clear hy e0 e1 e2 e3 hway
    go_upto_if 56 with fail
    go_cut [18] (fun s wx => s = .bool true ∧ Asked w2 wr X col N R C wx)
    case first =>
      by_cases hy0 : y = 0
      · have hq : ((y : Int) == 0) = true := by rw [hy0]; rfl
        have hq2 : (y == 0) = true := by rw [hy0]; rfl
        have hq3 : decide (y = 0) = true := by rw [hy0]; rfl
        have hq4 : decide ((y : Int) = 0) = true := by rw [hy0]; rfl
        clear hy0
        go_wp2_with fail
        refine Calls.mono (HAA.out w2 wr X col N lv R C hbw hLS hN100) ?_
        rintro e wx ⟨rfl, hA⟩
        go_wp2
        go_meet
        exact ⟨rfl, hA⟩
      · have hq : ((y : Int) == 0) = false := beq_eq_false_iff_ne.2 (by omega)
        have hq2 : (y == 0) = false := beq_eq_false_iff_ne.2 (by omega)
        have hq3 : decide (y = 0) = false := decide_eq_false hy0
        have hq4 : decide ((y : Int) = 0) = false := decide_eq_false (by omega)
        clear hy0
        go_wp2_with fail
        refine Calls.mono (HAB.out w2 wr X col N lv R C hbw hLS hN100) ?_
        rintro e wx ⟨rfl, hA⟩
        go_wp2
        go_meet
        exact ⟨rfl, hA⟩
    case rest =>
    obtain ⟨rfl, colA, NA, lvA, RA, CA, L, F, hLSa, hNA, hRCA, hbyA, hinA, hcolA, hChA⟩ := hcut
    obtain ⟨hgA, hlA⟩ := good_asked hgood hlens hNA hRCA hbyA hinA
    have hwayA : ∀ j, j < 6 → wc.cell? ⟨WB, j, none⟩ = some (.int .i64 ((wy j : Nat) : Int)) := fun j hj => hChA.cell (HWAY.out j hj) (by show ¬ (1 ≤ col WB ∧ col WB ≤ 5); omega)
    have HWAYA : Hid (∀ j, j < 6 → wc.cell? ⟨WB, j, none⟩ = some (.int .i64 ((wy j : Nat) : Int))) := hwayA
    clear hwayA
    have hWB1 : colA WB = 0 := by rw [hcolA WB hWlt]; exact hWcol
    have hWltA : WB < wc.heap.size := Nat.lt_of_lt_of_le hWlt hChA.size
    have HNA : Hid (∀ f, f < 4 → NA f = N f + 1) := hNA
    have hDc := hD2.below hLSa.ch
    clear hgood hlens hNA hRCA hbyA hinA hcolA hChA HWAY hWcol hWlt hLS hbw cw
    obtain ⟨a0, c0, ev0⟩ := owns_shape (hLSa.lst 0 (by decide))
    obtain ⟨n0, hn0⟩ : ∃ n0, n0 = NA 0 := ⟨_, rfl⟩
    have HV0 : Hid (lvA 0 = .slice a0 n0 c0) := by show _ = _; rw [ev0, hn0]
    have HN0 : Hid (NA 0 = n0) := hn0.symm
    have hn0b : n0 ≤ 100 := by have h1 := HNA.out 0 (by decide); have h2 := HE.out.1; omega
    clear ev0 hn0
    go_upto_region 15 with fail
    go_cut [77] (fun _ wx => ∃ (colB NB : Nat → Nat) (lvB : Nat → Value) (RB : Nat → Nat → Value) (CB : Nat → Nat → List Value), LS 4 tyL etL w2 wx X colB NB lvB RB CB ∧ NB 0 = NA 0 + 1 ∧ (∀ g, g ≠ 0 → NB g = NA g) ∧ (∀ g i, i < NA g → RB g i = RA g i ∧ CB g i = CA g i) ∧ CB 0 (NA 0) = (toI [2, 3]).map (Value.int .u8) ∧ colB WB = 0 ∧ Ch (fun x => colA x = 1 ∨ colA x = 2) wc wx)
    case first =>
        refine Mix.start (by kernel_rfl) ?_
        obtain ⟨wA, hwA⟩ : ∃ wA, wA = wc.drew := ⟨_, rfl⟩
        have hbA : Below wc.heap.size wc wA := by rw [hwA]; exact (Below.refl _ _).drew
        have hLSA := hLSa.below hbA
        have hDA := hDc.below hbA
        have HX0 : Hid (∀ W, Below wA.heap.size wA W → W.cell? ⟨X, 0, none⟩ = some (.slice a0 n0 c0)) := fun W hW => by rw [(hLSA.below hW).cell 0 (by decide), HV0.out]
        have x0a := HX0.out wA (Below.refl _ _)
        have hL0 : ∀ {W}, LS 4 tyL etL w2 W X colA NA lvA RA CA → W.ownsRow w2.heap.size 22 1 (.slice a0 n0 c0) n0 ((List.range n0).map (RA 0)) := fun {W} hW => by have := hW.lst 0 (by decide); rw [HV0.out, HN0.out] at this; exact this
        have SZA : Hid (wA.heap.size = wc.heap.size) := by show _ = _; rw [hwA]; rfl
        rw [← hwA]
        clear hwA
        refine Mix.take [true, true, true, true, false, true] 7 (by kernel_rfl) (by kernel_rfl) (by decide) (by kernel_rfl) (fun K hK => ?_)
        simp only [Mix.pick]
        repeat (go_big_quiet_step (fail))
        refine wpQuiet_nil (hK _ ?_)
        clear hK K
        refine Mix.pair [false, false, false, false, true] [false, false, false, false, false, false, true] 6 4 6 _ _ rfl rfl rfl rfl (by kernel_rfl) (by kernel_rfl) (fun K hK => ?_) (fun K hK => ?_)
        · simp only [Mix.pick]
          go_wp2
          refine ⟨rfl, hK _ _ ?_⟩
          clear hK K
          refine Mix.one [false, false, false, false, false, false, true] 5 6 _ rfl rfl (by kernel_rfl) (by kernel_rfl) (fun K hK => ?_)
          simp only [Mix.pick]
          go_wp2_with fail
          refine (doneB_any D vd 65535 [2, 3] _ hDA (by simp)).mono ?_
          rintro e wD ⟨gd, rfl, hod, hbD⟩
          have x0d := HX0.out _ hbD
          have x0e := HX0.out _ (hbD.alloc hbD.size (.cells #[.slice (some ⟨gd, 0, none⟩) 2 2] 22))
          have hLSD := hLSA.below hbD
          have szD := hbD.size
          go_wp2
          refine ⟨rfl, hK _ _ ?_⟩
          clear hK K
          refine Mix.one [false, false, false, false, false, false, false, true] 4 7 _ rfl rfl (by kernel_rfl) (by kernel_rfl) (fun K hK => ?_)
          simp only [Mix.pick]
          go_wp2
          refine ⟨rfl, hK _ _ ?_⟩
          clear hK K
          refine Mix.one [false, false, false, false, false, false, false, false, true] 3 8 _ rfl rfl (by kernel_rfl) (by kernel_rfl) (fun K hK => ?_)
          simp only [Mix.pick]
          go_wp2_with (at_builtin; refine append_split rfl (.tmp 73) (.tmp 76) 36 rfl w2.heap.size 22 j0 (.slice none 0 0) 24 Try.underlying36 gi gz0 gz1 gz2 rfl (.slice a0 n0 c0) n0 _ rfl ((hL0 hLSD).alloc _) ⟨wD.heap.size, 0, none⟩ 1 1 [.slice (some ⟨gd, 0, none⟩) 2 2] rfl rfl (cell_ptr' _ _ _) (by intro u hu; simp at hu; subst hu; rfl) (by unfold maxLen; omega) (by omega) (by have := hLSD.ch.size; simp; omega) ?_)
          intro v' wm ho hs
          obtain ⟨hch, hqq⟩ := split_ch' hs
          obtain ⟨bb0, dd0, rfl⟩ := owns_shape ho
          have hP := hLSD.push' 0 (by decide) (.slice (some ⟨gd, 0, none⟩) 2 2) ((toI [2, 3]).map (Value.int .u8)) (owns_mono hod hLSA.ch.size) (fun q hq => hLSA.top q (hod.lt q hq).1) (.slice bb0 (n0 + 1) dd0) (by rw [HN0.out]; exact ho) (by rw [HV0.out]; exact hqq) (by rw [HV0.out]; exact hch)
          have hnX : ¬ (Value.slice a0 n0 c0).ownBlock = some X := fun s => by have h1 := hLSD.cL 0 (by decide) X (by rw [HV0.out]; exact s); have := hLSD.cX; omega
          have xs : wm.cell? ⟨X, 0, none⟩ = some (.slice a0 n0 c0) := by have := cells1 hLSD.cell hLSD.ltX hch hnX 0 (by decide); rw [this, HV0.out]
          have fs : wm.frozen? ⟨X, 0, none⟩ = false := by rw [hch.frozen (p := ⟨X, 0, none⟩) hLSD.ltX hnX]; exact hLSD.fz 0
          have HQ0 : Hid (∀ q, (Value.slice (some ⟨gd, 0, none⟩) 2 2).ownBlock = some q → wA.heap.size ≤ q) := fun q hq => (hod.lt q hq).1
          clear ho hs hch hqq hnX hod
          go_wp2
          refine ⟨rfl, hK _ _ ?_⟩
          clear hK K
          refine Mix.take [false, false, false, false, false, false, false, false, false, true, true] 1 (by kernel_rfl) (by kernel_rfl) (by decide) (by kernel_rfl) (fun K hK => ?_)
          simp only [Mix.pick]
          repeat (go_big_quiet_step (fail))
          refine wpQuiet_nil (hK _ ?_)
          clear hK K
          refine Mix.one [false, false, false, false, false, false, false, false, false, false, false, true] 0 11 _ rfl rfl (by kernel_rfl) (by kernel_rfl) (fun K hK => ?_)
          simp only [Mix.pick]
          go_wp2
          refine ⟨rfl, hK _ _ ?_⟩
          clear hK K
          refine Mix.done (by kernel_rfl) ?_
          first | go_meet | (go_wp2; go_meet)
          obtain ⟨colB, NB, lvB, RB, CB, hLSB, hNfB, hNgB, hRCB, hCfB, hcolB, hCB⟩ := hP
          have hA := SZA.out
          exact ⟨colB, NB, lvB, RB, CB, hLSB, hNfB, hNgB, hRCB, hCfB, by rw [hcolB WB (by omega) (fun e => by have := HQ0.out _ e; omega)]; exact hWB1, ((Ch.ofBelow (S := fun x => colA x = 1 ∨ colA x = 2) hbA).trans (Ch.ofBelow (S := none_) hbD) (fun _ _ s => s.elim)).trans hCB (fun _ _ s => s)⟩
        · simp only [Mix.pick]
          go_wp2_with fail
          refine (doneB_any D vd 65535 [2, 3] _ hDA (by simp)).mono ?_
          rintro e wD ⟨gd, rfl, hod, hbD⟩
          have x0d := HX0.out _ hbD
          have x0e := HX0.out _ (hbD.alloc hbD.size (.cells #[.slice (some ⟨gd, 0, none⟩) 2 2] 22))
          have hLSD := hLSA.below hbD
          have szD := hbD.size
          go_wp2
          refine ⟨rfl, hK _ _ ?_⟩
          clear hK K
          refine Mix.pair [false, false, false, false, true] [false, false, false, false, false, false, false, true] 5 4 7 _ _ rfl rfl rfl rfl (by kernel_rfl) (by kernel_rfl) (fun K hK => ?_) (fun K hK => ?_)
          · simp only [Mix.pick]
            go_wp2
            refine ⟨rfl, hK _ _ ?_⟩
            clear hK K
            refine Mix.one [false, false, false, false, false, false, false, true] 4 7 _ rfl rfl (by kernel_rfl) (by kernel_rfl) (fun K hK => ?_)
            simp only [Mix.pick]
            go_wp2
            refine ⟨rfl, hK _ _ ?_⟩
            clear hK K
            refine Mix.one [false, false, false, false, false, false, false, false, true] 3 8 _ rfl rfl (by kernel_rfl) (by kernel_rfl) (fun K hK => ?_)
            simp only [Mix.pick]
            go_wp2_with (at_builtin; refine append_split rfl (.tmp 73) (.tmp 76) 36 rfl w2.heap.size 22 j0 (.slice none 0 0) 24 Try.underlying36 gi gz0 gz1 gz2 rfl (.slice a0 n0 c0) n0 _ rfl ((hL0 hLSD).alloc _) ⟨wD.heap.size, 0, none⟩ 1 1 [.slice (some ⟨gd, 0, none⟩) 2 2] rfl rfl (cell_ptr' _ _ _) (by intro u hu; simp at hu; subst hu; rfl) (by unfold maxLen; omega) (by omega) (by have := hLSD.ch.size; simp; omega) ?_)
            intro v' wm ho hs
            obtain ⟨hch, hqq⟩ := split_ch' hs
            obtain ⟨bb0, dd0, rfl⟩ := owns_shape ho
            have hP := hLSD.push' 0 (by decide) (.slice (some ⟨gd, 0, none⟩) 2 2) ((toI [2, 3]).map (Value.int .u8)) (owns_mono hod hLSA.ch.size) (fun q hq => hLSA.top q (hod.lt q hq).1) (.slice bb0 (n0 + 1) dd0) (by rw [HN0.out]; exact ho) (by rw [HV0.out]; exact hqq) (by rw [HV0.out]; exact hch)
            have hnX : ¬ (Value.slice a0 n0 c0).ownBlock = some X := fun s => by have h1 := hLSD.cL 0 (by decide) X (by rw [HV0.out]; exact s); have := hLSD.cX; omega
            have xs : wm.cell? ⟨X, 0, none⟩ = some (.slice a0 n0 c0) := by have := cells1 hLSD.cell hLSD.ltX hch hnX 0 (by decide); rw [this, HV0.out]
            have fs : wm.frozen? ⟨X, 0, none⟩ = false := by rw [hch.frozen (p := ⟨X, 0, none⟩) hLSD.ltX hnX]; exact hLSD.fz 0
            have HQ0 : Hid (∀ q, (Value.slice (some ⟨gd, 0, none⟩) 2 2).ownBlock = some q → wA.heap.size ≤ q) := fun q hq => (hod.lt q hq).1
            clear ho hs hch hqq hnX hod
            go_wp2
            refine ⟨rfl, hK _ _ ?_⟩
            clear hK K
            refine Mix.take [false, false, false, false, false, false, false, false, false, true, true] 1 (by kernel_rfl) (by kernel_rfl) (by decide) (by kernel_rfl) (fun K hK => ?_)
            simp only [Mix.pick]
            repeat (go_big_quiet_step (fail))
            refine wpQuiet_nil (hK _ ?_)
            clear hK K
            refine Mix.one [false, false, false, false, false, false, false, false, false, false, false, true] 0 11 _ rfl rfl (by kernel_rfl) (by kernel_rfl) (fun K hK => ?_)
            simp only [Mix.pick]
            go_wp2
            refine ⟨rfl, hK _ _ ?_⟩
            clear hK K
            refine Mix.done (by kernel_rfl) ?_
            first | go_meet | (go_wp2; go_meet)
            obtain ⟨colB, NB, lvB, RB, CB, hLSB, hNfB, hNgB, hRCB, hCfB, hcolB, hCB⟩ := hP
            have hA := SZA.out
            exact ⟨colB, NB, lvB, RB, CB, hLSB, hNfB, hNgB, hRCB, hCfB, by rw [hcolB WB (by omega) (fun e => by have := HQ0.out _ e; omega)]; exact hWB1, ((Ch.ofBelow (S := fun x => colA x = 1 ∨ colA x = 2) hbA).trans (Ch.ofBelow (S := none_) hbD) (fun _ _ s => s.elim)).trans hCB (fun _ _ s => s)⟩
          · simp only [Mix.pick]
            go_wp2
            refine ⟨rfl, hK _ _ ?_⟩
            clear hK K
            refine Mix.one [false, false, false, false, true] 4 4 _ rfl rfl (by kernel_rfl) (by kernel_rfl) (fun K hK => ?_)
            simp only [Mix.pick]
            go_wp2
            refine ⟨rfl, hK _ _ ?_⟩
            clear hK K
            refine Mix.one [false, false, false, false, false, false, false, false, true] 3 8 _ rfl rfl (by kernel_rfl) (by kernel_rfl) (fun K hK => ?_)
            simp only [Mix.pick]
            go_wp2_with (at_builtin; refine append_split rfl (.tmp 73) (.tmp 76) 36 rfl w2.heap.size 22 j0 (.slice none 0 0) 24 Try.underlying36 gi gz0 gz1 gz2 rfl (.slice a0 n0 c0) n0 _ rfl ((hL0 hLSD).alloc _) ⟨wD.heap.size, 0, none⟩ 1 1 [.slice (some ⟨gd, 0, none⟩) 2 2] rfl rfl (cell_ptr' _ _ _) (by intro u hu; simp at hu; subst hu; rfl) (by unfold maxLen; omega) (by omega) (by have := hLSD.ch.size; simp; omega) ?_)
            intro v' wm ho hs
            obtain ⟨hch, hqq⟩ := split_ch' hs
            obtain ⟨bb0, dd0, rfl⟩ := owns_shape ho
            have hP := hLSD.push' 0 (by decide) (.slice (some ⟨gd, 0, none⟩) 2 2) ((toI [2, 3]).map (Value.int .u8)) (owns_mono hod hLSA.ch.size) (fun q hq => hLSA.top q (hod.lt q hq).1) (.slice bb0 (n0 + 1) dd0) (by rw [HN0.out]; exact ho) (by rw [HV0.out]; exact hqq) (by rw [HV0.out]; exact hch)
            have hnX : ¬ (Value.slice a0 n0 c0).ownBlock = some X := fun s => by have h1 := hLSD.cL 0 (by decide) X (by rw [HV0.out]; exact s); have := hLSD.cX; omega
            have xs : wm.cell? ⟨X, 0, none⟩ = some (.slice a0 n0 c0) := by have := cells1 hLSD.cell hLSD.ltX hch hnX 0 (by decide); rw [this, HV0.out]
            have fs : wm.frozen? ⟨X, 0, none⟩ = false := by rw [hch.frozen (p := ⟨X, 0, none⟩) hLSD.ltX hnX]; exact hLSD.fz 0
            have HQ0 : Hid (∀ q, (Value.slice (some ⟨gd, 0, none⟩) 2 2).ownBlock = some q → wA.heap.size ≤ q) := fun q hq => (hod.lt q hq).1
            clear ho hs hch hqq hnX hod
            go_wp2
            refine ⟨rfl, hK _ _ ?_⟩
            clear hK K
            refine Mix.take [false, false, false, false, false, false, false, false, false, true, true] 1 (by kernel_rfl) (by kernel_rfl) (by decide) (by kernel_rfl) (fun K hK => ?_)
            simp only [Mix.pick]
            repeat (go_big_quiet_step (fail))
            refine wpQuiet_nil (hK _ ?_)
            clear hK K
            refine Mix.one [false, false, false, false, false, false, false, false, false, false, false, true] 0 11 _ rfl rfl (by kernel_rfl) (by kernel_rfl) (fun K hK => ?_)
            simp only [Mix.pick]
            go_wp2
            refine ⟨rfl, hK _ _ ?_⟩
            clear hK K
            refine Mix.done (by kernel_rfl) ?_
            first | go_meet | (go_wp2; go_meet)
            obtain ⟨colB, NB, lvB, RB, CB, hLSB, hNfB, hNgB, hRCB, hCfB, hcolB, hCB⟩ := hP
            have hA := SZA.out
            exact ⟨colB, NB, lvB, RB, CB, hLSB, hNfB, hNgB, hRCB, hCfB, by rw [hcolB WB (by omega) (fun e => by have := HQ0.out _ e; omega)]; exact hWB1, ((Ch.ofBelow (S := fun x => colA x = 1 ∨ colA x = 2) hbA).trans (Ch.ofBelow (S := none_) hbD) (fun _ _ s => s.elim)).trans hCB (fun _ _ s => s)⟩
    case rest =>
    obtain ⟨colB, NB, lvB, RB, CB, hLSB, hNfB, hNgB, hRCB, hCfB, hWB2, hCB⟩ := hcut
    have hwayB : ∀ j, j < 6 → wc.cell? ⟨WB, j, none⟩ = some (.int .i64 ((wy j : Nat) : Int)) := fun j hj => hCB.cell (HWAYA.out j hj) (by show ¬ (colA WB = 1 ∨ colA WB = 2); omega)
    have hWltB : WB < wc.heap.size := Nat.lt_of_lt_of_le hWltA hCB.size
    have HWAYB : Hid (∀ j, j < 6 → wc.cell? ⟨WB, j, none⟩ = some (.int .i64 ((wy j : Nat) : Int))) := hwayB
    clear hwayB HWAYA hLSa hDc HV0 HN0 hCB hWB1 hWltA
    obtain ⟨a1, c1, ev1⟩ := owns_shape (hLSB.lst 1 (by decide))
    obtain ⟨n1, hn1⟩ : ∃ n1, n1 = NB 1 := ⟨_, rfl⟩
    have HV1 : Hid (lvB 1 = .slice a1 n1 c1) := by show _ = _; rw [ev1, hn1]
    have HN1 : Hid (NB 1 = n1) := hn1.symm
    have hn1b : n1 ≤ 100 := by have h0 := hNgB 1 (by decide); have h1 := HNA.out 1 (by decide); have h2 := HE.out.2.1; omega
    clear ev1 hn1
    have bL : Below wc.heap.size wc (wc.alloc (.cells #[.int .u8 2, .int .u8 3] 5)) := (Below.refl _ _).alloc (Nat.le_refl _) _
    have hLSL := hLSB.below bL
    have hrow : (wc.alloc (.cells #[.int .u8 2, .int .u8 3] 5)).ownsRow wc.heap.size 5 1 (.slice (some ⟨wc.heap.size, 0, none⟩) 2 2) 2 ((toI [2, 3]).map (Value.int .u8)) := to_own (by show (wc.heap.push _)[wc.heap.size]? = some _; simp [toI]) (Nat.le_refl _) rfl (by unfold maxLen; omega)
    have x1 := hLSB.cell 1 (by decide)
    rw [HV1.out] at x1
    have hl1 : (wc.alloc (.cells #[.int .u8 2, .int .u8 3] 5)).ownsRow w2.heap.size 22 1 (.slice a1 n1 c1) n1 ((List.range n1).map (RB 1)) := by have := hLSL.lst 1 (by decide); rw [HV1.out, HN1.out] at this; exact this
    have szc := hLSB.ch.size
    go_wp2_with (at_builtin; refine append_split rfl (.tmp 84) (.tmp 86) 36 rfl w2.heap.size 22 j0 (.slice none 0 0) 24 Try.underlying36 gi gz0 gz1 gz2 rfl (.slice a1 n1 c1) n1 _ rfl (hl1.alloc _) ⟨wc.heap.size + 1, 0, none⟩ 1 1 [.slice (some ⟨wc.heap.size, 0, none⟩) 2 2] rfl rfl (cell_ptr2 _ _ _ _ (by simp)) (by intro u hu; simp at hu; subst hu; rfl) (by unfold maxLen; omega) (by omega) (by simp; omega) ?_)
    intro v' wm ho hs
    obtain ⟨hch, hqq⟩ := split_ch' (w := wc.alloc (.cells #[.int .u8 2, .int .u8 3] 5)) (by simpa using hs)
    obtain ⟨bb1, dd1, rfl⟩ := owns_shape ho
    have hP := hLSL.push' 1 (by decide) (.slice (some ⟨wc.heap.size, 0, none⟩) 2 2) ((toI [2, 3]).map (Value.int .u8)) (owns_mono hrow szc) (fun q hq => hLSB.top q (hrow.lt q hq).1) (.slice bb1 (n1 + 1) dd1) (by rw [HN1.out]; exact ho) (by rw [HV1.out]; exact hqq) (by rw [HV1.out]; exact hch)
    have hnX : ¬ (Value.slice a1 n1 c1).ownBlock = some X := fun s => by have h1 := hLSL.cL 1 (by decide) X (by rw [HV1.out]; exact s); have := hLSL.cX; omega
    have xs : wm.cell? ⟨X, 1, none⟩ = some (.slice a1 n1 c1) := by have := cells1 hLSL.cell hLSL.ltX hch hnX 1 (by decide); rw [this, HV1.out]
    have fs : wm.frozen? ⟨X, 1, none⟩ = false := by rw [hch.frozen (p := ⟨X, 1, none⟩) hLSL.ltX hnX]; exact hLSL.fz 1
    obtain ⟨colD, ND, lvD, RD, CD, hLSD, hNfD, hNgD, hRCD, hCfD, hcolD, hCD⟩ := hP
    obtain ⟨hgD, hlD⟩ := good_two hgA hlA hNfB hNgB hNfD hNgD (fun g i hi => (hRCB g i hi).2) (fun g i hi => (hRCD g i hi).2) hCfB hCfD
    have hWB3 : colD WB = 0 := by rw [hcolD WB (by simp; omega) (fun e => by simp [Value.ownBlock] at e; omega)]; exact hWB2
    have hwayD : ∀ j, j < 6 → (wm.setCell ⟨X, 1, none⟩ (.slice bb1 (n1 + 1) dd1)).cell? ⟨WB, j, none⟩ = some (.int .i64 ((wy j : Nat) : Int)) := fun j hj => hCD.cell ((bL.cell (p := ⟨WB, j, none⟩) hWltB).trans (HWAYB.out j hj)) (by show ¬ (colB WB = 1 ∨ colB WB = 2 + 1); omega)
    have HWAYD : Hid (∀ j, j < 6 → (wm.setCell ⟨X, 1, none⟩ (.slice bb1 (n1 + 1) dd1)).cell? ⟨WB, j, none⟩ = some (.int .i64 ((wy j : Nat) : Int))) := hwayD
    clear hwayD
    have hWltD : WB < (wm.setCell ⟨X, 1, none⟩ (.slice bb1 (n1 + 1) dd1)).heap.size := by have := hCD.size; simp at this ⊢; omega
    have HND : Hid (ND 0 = 2 * (i + 1) ∧ ND 1 = 2 * (i + 1) ∧ ND 2 = i + 1 ∧ ND 3 = i + 1) := by
      obtain ⟨h0, h1, h2, h3⟩ := HE.out
      have k0 := HNA.out 0 (by decide)
      have k1 := HNA.out 1 (by decide)
      have k2 := HNA.out 2 (by decide)
      have k3 := HNA.out 3 (by decide)
      have m1 := hNgB 1 (by decide)
      have m2 := hNgB 2 (by decide)
      have m3 := hNgB 3 (by decide)
      have l0 := hNgD 0 (by decide)
      have l2 := hNgD 2 (by decide)
      have l3 := hNgD 3 (by decide)
      exact ⟨by omega, by omega, by omega, by omega⟩
    clear ho hs hch hqq hnX hrow bL hLSL hl1 hLSB hNfB hNgB hRCB hCfB hNfD hNgD hRCD hCfD hcolD hCD hgA hlA HWAYB HNA HE x1 HV1 HN1
    go_wp2
    go_roundw
    case rel => exact ⟨i + 1, colD, ND, lvD, RD, CD, by omega, by go_num, hLSD, HND.out, hgD, hlD, hWB3, hWltD, HWAYD.out⟩
    case measure => simp [intOf]; omega
  have HX1 : Hid (N 0 = 12 ∧ N 1 = 12 ∧ N 2 = 6 ∧ N 3 = 6) := ⟨by omega, by omega, by omega, by omega⟩
  clear e0 e1 e2 e3 hWcol hWlt hway hbw hi6
  go_wp2_with fail
  refine (as_any w2 wr X col N lv R C hLS hgood hN100).mono ?_
  rintro e w6 ⟨rfl, hb6⟩
  have hLS6 := hLS.below hb6
  clear hLS hb6
  have hR0 : ∀ i, i < 12 → w6.ownsRow w2.heap.size 5 1 (R 0 i) (C 0 i).length (C 0 i) := fun i hi => hLS6.row 0 (by decide) i (by rw [HX1.out.1]; exact hi)
  have hR2 : ∀ i, i < 6 → w6.ownsRow w2.heap.size 3 1 (R 2 i) (C 2 i).length (C 2 i) := fun i hi => hLS6.row 2 (by decide) i (by rw [HX1.out.2.2.1]; exact hi)
  have hL0 := hLS6.lst 0 (by decide)
  have hL2 := hLS6.lst 2 (by decide)
  rw [HX1.out.1] at hL0
  rw [HX1.out.2.2.1] at hL2
  obtain ⟨lb, lc, el0, _, _⟩ := own_block hL0 (by decide)
  obtain ⟨li, lic, el2, _, _⟩ := own_block hL2 (by decide)
  have x0 := hLS6.cell 0 (by decide)
  have x2 := hLS6.cell 2 (by decide)
  rw [el0] at hL0 x0
  rw [el2] at hL2 x2
  have hcX := hLS6.cX
  have hcli : col li = 4 := by have := hLS6.cL 2 (by decide) li (by rw [el2]; rfl); omega
  have hclb : col lb = 2 := by have := hLS6.cL 0 (by decide) lb (by rw [el0]; rfl); omega
  have hc0 : ∀ i, i < 12 → ∀ q, (R 0 i).ownBlock = some q → col q = 6 + 4 * i := fun i hi q hq => by have := hLS6.cR 0 (by decide) i (by rw [HX1.out.1]; exact hi) q hq; omega
  have hc2 : ∀ i, i < 6 → ∀ q, (R 2 i).ownBlock = some q → col q = 8 + 4 * i := fun i hi q hq => by have := hLS6.cR 2 (by decide) i (by rw [HX1.out.2.2.1]; exact hi) q hq; omega
  have hlen0 : ∀ i, i < 12 → (C 0 i).length ≤ 65535 := fun i hi => hlens i (by rw [HX1.out.1]; exact hi)
  have hlen2 : ∀ i, i < 6 → (C 2 i).length ≤ 64 := fun i hi => by
    obtain ⟨l, h1, _, h3⟩ := hgood.n i (by rw [HX1.out.2.2.1]; exact hi)
    rw [h1]; simp [toI]; exact h3
  obtain ⟨nB, hnB⟩ : ∃ nB : Nat → Nat, nB = fun i => if i < 12 then (C 0 i).length else 0 := ⟨_, rfl⟩
  obtain ⟨nI, hnI⟩ : ∃ nI : Nat → Nat, nI = fun i => if i < 6 then (C 2 i).length else 0 := ⟨_, rfl⟩
  have hnBb : ∀ i, nB i ≤ 1000000 := fun i => by
    rw [hnB]; show (if i < 12 then _ else _) ≤ _
    split
    · rename_i h; have := hlen0 i h; omega
    · omega
  have hnIb : ∀ i, nI i ≤ 64 := fun i => by
    rw [hnI]; show (if i < 6 then _ else _) ≤ _
    split
    · rename_i h; exact hlen2 i h
    · omega
  have hR0' : ∀ i, i < 12 → w6.ownsRow w2.heap.size 5 1 (R 0 i) (nB i) (C 0 i) := fun i hi => by
    have e : nB i = (C 0 i).length := by rw [hnB]; exact if_pos hi
    rw [e]; exact hR0 i hi
  have HFL : Hid _ := Fm.filled_any lb lc 12 (R 0) nB (C 0) w6 w2.heap.size hL0 hR0' (fun i j hi hj hne => hLS6.dis (by decide) (by decide) (by rw [HX1.out.1]; exact hi) (by rw [HX1.out.1]; exact hj) (.inr hne)) (by decide) hnBb hLS6.ch.size
  have hR2' : ∀ i, i < 6 → w6.ownsRow w2.heap.size 3 1 (R 2 i) (nI i) (C 2 i) := fun i hi => by
    have e : nI i = (C 2 i).length := by rw [hnI]; exact if_pos hi
    rw [e]; exact hR2 i hi
  have hX6 := hLS6.ltX
  have hD6 := hD2.below hLS6.ch
  have hDl : ∀ q, BS D vd q → q < w2.heap.size := by
    rintro q (e | e)
    · rw [e]; exact hD2.lt
    · exact (hD2.own.lt q e).2
  have b26 := hLS6.ch
  have hdis2 : ∀ i j, i < 6 → j < 6 → i ≠ j → ∀ q, (R 2 i).ownBlock = some q → (R 2 j).ownBlock ≠ some q := fun i j hi hj hne => hLS6.dis (by decide) (by decide) (by rw [HX1.out.2.2.1]; exact hi) (by rw [HX1.out.2.2.1]; exact hj) (.inr hne)
  have hlo0 : ∀ i, i < 12 → ∀ q, (R 0 i).ownBlock = some q → w2.heap.size ≤ q := fun i hi q hq => ((hR0 i hi).lt q hq).1
  have hlo2 : ∀ i, i < 6 → ∀ q, (R 2 i).ownBlock = some q → w2.heap.size ≤ q ∧ q < w6.heap.size := fun i hi q hq => (hR2 i hi).lt q hq
  clear hL0 hR0 hR0' hR2 hgood hlens hN100 hnB hnI hlen0 hlen2 el0 el2 hLS6 HX1
  go_wp2_with fail
  refine Calls.mono HFL.out ?_
  rintro e w7 ⟨mv, FB, MB, rfl, hmv, hFB, hMB⟩
  obtain ⟨mb, mc, rfl, _, _⟩ := own_block hmv (by decide)
  have hStd := Fm.Std.of hFB hMB hmv
  have hch7 := hFB.ch
  have y0 : w7.cell? ⟨X, 0, none⟩ = some (.slice (some ⟨lb, 0, none⟩) 12 lc) := hch7.cell x0 (fun s => by obtain ⟨i, hi, e⟩ := s; have := hc0 i hi X e; omega)
  have y2 : w7.cell? ⟨X, 2, none⟩ = some (.slice (some ⟨li, 0, none⟩) 6 lic) := hch7.cell x2 (fun s => by obtain ⟨i, hi, e⟩ := s; have := hc0 i hi X e; omega)
  have hL27 := hch7.owns hL2 (fun q hq s => by obtain ⟨i, hi, e⟩ := s; have h1 := hc0 i hi q e; simp [Value.ownBlock] at hq; subst hq; omega)
  have hR27 : ∀ i, i < 6 → w7.ownsRow w2.heap.size 3 1 (R 2 i) (nI i) (C 2 i) := fun i hi => hch7.owns (hR2' i hi) (fun q hq s => by obtain ⟨j, hj, e⟩ := s; have h1 := hc0 j hj q e; have h2 := hc2 i hi q hq; omega)
  have hD7 := hD6.ch hch7 (fun q hq s => by obtain ⟨j, hj, e⟩ := s; have h1 := hlo0 j hj q e; have h2 := hDl q hq; omega)
  have b27 : Below w2.heap.size w2 w7 := b26.trans (hch7.below (fun q s => by obtain ⟨j, hj, e⟩ := s; exact hlo0 j hj q e) b26.size)
  have hX7 : X < w7.heap.size := Nat.lt_of_lt_of_le hX6 hch7.size
  obtain ⟨SI, hSI⟩ : ∃ SI : Nat → Prop, SI = fun q => ∃ i, i < 6 ∧ (R 2 i).ownBlock = some q := ⟨_, rfl⟩
  have hSI1 : ∀ i, i < 6 → ∀ q, (R 2 i).ownBlock = some q → SI q := fun i hi q hq => by rw [hSI]; exact ⟨i, hi, hq⟩
  have HSI : Hid (∀ q, SI q → ∃ i, i < 6 ∧ (R 2 i).ownBlock = some q) := fun q hq => by rw [hSI] at hq; exact hq
  have hXS : ¬ SI X := fun s => by obtain ⟨i, hi, e⟩ := HSI.out X s; have := hc2 i hi X e; omega
  have hSlo : ∀ q, SI q → w2.heap.size ≤ q := fun q s => by obtain ⟨i, hi, e⟩ := HSI.out q s; exact (hlo2 i hi q e).1
  have HLI : Hid (li < w7.heap.size) := (hL27.lt li rfl).2
  have hSl7 : ∀ q, SI q → q < w7.heap.size := fun q s => by obtain ⟨i, hi, e⟩ := HSI.out q s; have := (hlo2 i hi q e).2; have := hch7.size; omega
  have hStdS : ∀ q, Fm.StdB lb 12 mb (R 0) MB q → ¬ SI q := by
    intro q hq s
    obtain ⟨i, hi, e⟩ := HSI.out q s
    have h2 := hc2 i hi q e
    rcases hq with hq | hq | ⟨j, hj, hq⟩ | ⟨k, hk, hq⟩
    · rw [hq] at h2; omega
    · have h3 := (hlo2 i hi q e).2
      rw [hq] at h3
      have h4 := (hmv.lt mb rfl).1
      omega
    · have h1 := hc0 j hj q hq; omega
    · have h5 := hFB.dis
      have h6 := hFB.loc
      obtain ⟨m1, m2, m3⟩ := hMB.2 (k / 3) (by omega)
      have hm : (⟨k / 3, MB k, nB (k / 3) + Fm.tl (k % 3)⟩ : Fm.Sl) ∈ FB := by
        have h7 : k % 3 = 0 ∨ k % 3 = 1 ∨ k % 3 = 2 := by omega
        rcases h7 with h7 | h7 | h7
        · rw [h7]; rw [show 3 * (k / 3) = k by omega] at m1; exact m1
        · rw [h7]; rw [show 3 * (k / 3) + 1 = k by omega] at m2; exact m2
        · rw [h7]; rw [show 3 * (k / 3) + 2 = k by omega] at m3; exact m3
      rcases h6 _ hm q hq with ⟨j, hj, e'⟩ | h8
      · have h1 := hc0 j hj q e'; omega
      · have h3 := (hlo2 i hi q e).2; omega
  clear HFL hFB hMB hmv hch7 x0 x2 hL2 hR2' hD6 b26 hc0 hlo0 hX6 hSI hcX hclb
  have hF7 : Fi.Fill w7 w7 w2.heap.size nI SI (.slice (some ⟨li, 0, none⟩) 6 lic) 6 (R 2) (Fi.fc nI (C 2) 0 0) := ⟨fun j hj => by rw [Fi.fc_zero]; exact hR27 j hj, hL27, Ch.refl _ _⟩
  have hXl2 : ∀ i, i < 6 → (C 2 i).length = nI i := fun i hi => by have := (hR27 i hi).1; omega
  clear hR27 hL27
  go_upto_region 21 with fail
  go_loopw [20] (fun ix wr => ∃ i : Nat, i ≤ 6 ∧ ix = .int .i64 i ∧ Fi.Fill w7 wr w2.heap.size nI SI (.slice (some ⟨li, 0, none⟩) 6 lic) 6 (R 2) (Fi.fc nI (C 2) i 0)) (fun ix _ => 6 - (intOf ix).toNat)
  case atStart => exact ⟨0, by omega, rfl, hF7⟩
  case round =>
  clear hF7
  obtain ⟨i, hi6, rfl, hF⟩ := hrel
  have c2 := hF.ch.cell y2 hXS
  by_cases hlt : i < 6
  · obtain ⟨va, vc, hv⟩ := owns_shape (hF.rows i hlt)
    have HV : Hid (R 2 i = .slice va (nI i) vc) := hv
    have HNX : Hid ((C 2 i).length = nI i) := hXl2 i hlt
    have hni := hnIb i
    obtain ⟨ni, hnie⟩ : ∃ ni, ni = nI i := ⟨_, rfl⟩
    rw [← hnie] at hni
    have HNI : Hid (nI i = ni) := hnie.symm
    clear hv hnie
    go_wp2
    clear c2
    go_loopw [21] (fun ix wq => ∃ k : Nat, k ≤ ni ∧ ix = .int .i64 k ∧ Fi.Fill w7 wq w2.heap.size nI SI (.slice (some ⟨li, 0, none⟩) 6 lic) 6 (R 2) (Fi.fc nI (C 2) i k)) (fun ix _ => ni - (intOf ix).toNat)
    case atStart => exact ⟨0, by omega, rfl, hF⟩
    case round =>
      obtain ⟨k, hk, rfl, hG⟩ := hrel
      have c2 := hG.ch.cell y2 hXS
      have c0 := Fi.lst_cell' hG.lst i hlt
      rw [HV.out, HNI.out] at c0
      by_cases hkl : k < ni
      · have hrow := hG.rows i hlt
        obtain ⟨g, c, e, _, _⟩ := own_block hrow (by rw [HNI.out]; omega)
        have HVe : Hid (R 2 i = .slice (some ⟨g, 0, none⟩) (nI i) c) := e
        have e2 := e
        rw [HV.out] at e2
        simp only [Value.slice.injEq, true_and] at e2
        obtain ⟨rfl, rfl⟩ := e2
        rw [e] at hrow
        have hc : ∃ z, wr.cell? ⟨g, k, none⟩ = some z := by
          have hxl := hrow.1
          have h1 := HNI.out
          have := hrow.cellAt k (by omega)
          rw [List.getElem?_eq_getElem (by omega)] at this
          exact ⟨_, this⟩
        obtain ⟨z, hz⟩ := hc
        have hfz := hrow.frozenAt k
        have hG2 := hG.store hlt HNX.out (by rw [HNI.out]; exact hkl) HVe.out (hSI1 i hlt g (by rw [HVe.out]; rfl)) hdis2
        rw [show Fi.mkAt i = -1 - (i : Int) from rfl] at hG2
        clear hrow e hG
        go_wp2
        go_roundw
        case rel => exact ⟨k + 1, by omega, by go_num, hG2⟩
        case measure => simp [intOf]; omega
      · obtain rfl : k = ni := by omega
        have hG2 : Fi.Fill w7 wr w2.heap.size nI SI (.slice (some ⟨li, 0, none⟩) 6 lic) 6 (R 2) (Fi.fc nI (C 2) (i + 1) 0) := by
          refine ⟨fun j hj => ?_, hG.lst, hG.ch⟩
          rw [← Fi.fc_next nI (C 2) i j HNX.out, HNI.out]
          exact hG.rows j hj
        clear hG
        go_wp2
        go_roundw
        case rel => exact ⟨i + 1, by omega, by go_num, hG2⟩
        case measure => simp [intOf]; omega
  have hF0 : Fi.Fam w7 wr w2.heap.size nI SI (.slice (some ⟨li, 0, none⟩) 6 lic) 6 (R 2) ((List.range 6).map (fun j => ⟨j, R 2 j, nI j⟩)) := by
    refine ⟨fun r hr => ?_, fun r hr s hs hne q hq => ?_, fun r hr q hq => ?_, hF.lst, hF.ch⟩
    · simp only [List.mem_map, List.mem_range] at hr
      obtain ⟨j, hj, rfl⟩ := hr
      have := hF.rows j hj
      unfold Fi.fc at this
      rw [if_pos (by omega)] at this
      exact this
    · simp only [List.mem_map, List.mem_range] at hr hs
      obtain ⟨j, hj, rfl⟩ := hr
      obtain ⟨j', hj', rfl⟩ := hs
      exact hdis2 j j' hj hj' hne q hq
    · simp only [List.mem_map, List.mem_range] at hr
      obtain ⟨j, hj, rfl⟩ := hr
      exact .inl (hSI1 j hj q hq)
  have hM0 : MemI nI ((List.range 6).map (fun j => (⟨j, R 2 j, nI j⟩ : Fi.Sl))) (R 2) (fun _ => .slice none 0 0) 6 0 := ⟨fun j hj => by simp only [List.mem_map, List.mem_range]; exact ⟨j, hj, rfl⟩, fun j hj => by omega⟩
  clear hF
  go_wp2
  clear c2
  go_loopw [22, 23] (fun lg ix wq => ∃ (i : Nat) (F : List Fi.Sl) (G : Nat → Value), i ≤ 6 ∧ ix = .int .i64 i ∧ wq.ownsRow w7.heap.size 23 1 lg i ((List.range i).map G) ∧ Fi.Fam w7 wq w2.heap.size nI SI (.slice (some ⟨li, 0, none⟩) 6 lic) 6 (R 2) F ∧ MemI nI F (R 2) G 6 i) (fun _ ix _ => 6 - (intOf ix).toNat)
  case atStart => exact ⟨0, _, _, by omega, rfl, World.ownsRow_nil _ _ _ _, hF0, hM0⟩
  case round =>
  clear hF0 hM0
  obtain ⟨i, F, G, hi6, rfl, hlg, hF, hM⟩ := hrel
  have c2 := hF.ch.cell y2 hXS
  by_cases hlt : i < 6
  · have hm0 := hM.1 i hlt
    obtain ⟨va, vc, hv⟩ := owns_shape (hF.rows _ hm0)
    have hv' : R 2 i = .slice va (nI i) vc := hv
    rw [hv'] at hm0
    have HV : Hid (R 2 i = .slice va (nI i) vc) := hv'
    have c0 := Fi.lst_cell' hF.lst i hlt
    rw [HV.out] at c0
    have hni := hnIb i
    obtain ⟨ni, hnie⟩ : ∃ ni, ni = nI i := ⟨_, rfl⟩
    rw [← hnie] at hni c0 hm0
    have HNI : Hid (nI i = ni) := hnie.symm
    have hdi : decide ((i : Int) < 6) = true := decide_eq_true (by omega)
    clear hv hv' hnie
    go_wp2
    clear c0 c2
    go_loopw [24] (fun gv wq => ∃ (k : Nat) (FF : List Fi.Sl), k ≤ 70 ∧ (∃ a c, gv = .slice a (ni + k) c) ∧ (⟨i, gv, ni + k⟩ : Fi.Sl) ∈ FF ∧ (∀ r ∈ F, r ∈ FF) ∧ Fi.Fam w7 wq w2.heap.size nI SI (.slice (some ⟨li, 0, none⟩) 6 lic) 6 (R 2) FF ∧ wq.ownsRow w7.heap.size 23 1 u22 i ((List.range i).map G)) (fun gv _ => ni + 70 - sLen gv)
    case atStart => exact ⟨0, F, by omega, ⟨va, vc, rfl⟩, hm0, fun r hr => hr, hF, hlg⟩
    case round =>
      obtain ⟨k, FF, hk, ⟨a, c, rfl⟩, hmem, hsub, hG, hlq⟩ := hrel
      have c2 := hG.ch.cell y2 hXS
      have c0 := Fi.lst_cell' hG.lst i hlt
      rw [HV.out, HNI.out] at c0
      have szq := hG.ch.size
      by_cases hkl : k < 70
      · have hGa := hG.below ((Below.refl _ _).alloc (Nat.le_refl _) (.cells #[.int .i64 (-1 - (i : Int))] 3))
        have hlqa : (wr.alloc (.cells #[.int .i64 (-1 - (i : Int))] 3)).ownsRow w7.heap.size 23 1 u22 i ((List.range i).map G) := hlq.alloc _
        have hnw : ∀ j, j < 1 → (wr.alloc (.cells #[.int .i64 (-1 - (i : Int))] 3)).cell? ((⟨wr.heap.size, 0, none⟩ : Addr).add j) = some (.int .i64 (Fi.mkAt i)) := fun j hj => by
          have : j = 0 := by omega
          subst this
          simp [go_sem, Addr.add, Fi.mkAt]
        go_wp2_with (at_builtin; refine Fi.append_fam rfl (.tmp 158) (.tmp 161) rfl hGa i (ni + k) 1 (.slice a (ni + k) c) hmem (by omega) (by have := b27.size; simp; omega) rfl ⟨wr.heap.size, 0, none⟩ 1 rfl hnw ?_)
        intro v8 w8 hG8 hc8
        have hlq8 := hc8.owns hlqa (Fi.apart3 hlqa (hGa.rows _ hmem) (by decide))
        obtain ⟨a8, c8, rfl⟩ : ∃ a c, v8 = .slice a (ni + k + 1) c := owns_shape (hG8.rows _ List.mem_cons_self)
        clear hc8 hlqa hGa hnw c0 c2 hG hlq
        go_wp2
        go_roundw
        case rel => exact ⟨k + 1, _, by omega, ⟨_, _, rfl⟩, List.mem_cons_self, fun r hr => List.mem_cons_of_mem _ (hsub r hr), hG8, hlq8⟩
        case measure => simp [sLen]; omega
      · obtain rfl : k = 70 := by omega
        have hlqa : (wr.alloc (.cells #[.slice a (ni + 70) c] 23)).ownsRow w7.heap.size 23 1 u22 i ((List.range i).map G) := hlq.alloc _
        have hGa := hG.below ((Below.refl _ _).alloc (Nat.le_refl _) (.cells #[.slice a (ni + 70) c] 23))
        have hli7 : li < w7.heap.size := HLI.out
        go_wp2_with (at_builtin; refine wpList_append_own _ rfl (.tmp 163) (.tmp 165) 72 rfl w7.heap.size 23 k0 (.slice none 0 0) 1 24 Try.underlying72 ki kz0 kz1 kz2 rfl (by decide) _ _ _ rfl hlqa ⟨wr.heap.size, 0, none⟩ 1 1 [.slice a (ni + 70) c] rfl rfl (cell_ptr' _ _ _) (by intro u hu; simp at hu; subst hu; rfl) (by unfold maxLen; omega) (by omega) (by simp; omega) ?_)
        intro v9 w9 ho9 hg9 _
        have hG9 := hGa.more hlqa (fun q hq e => by have h1 := (hlqa.lt q hq).1; simp [Value.ownBlock] at e; omega) hg9
        rw [row_next] at ho9
        rw [← HNI.out] at hmem
        have hM9 := hM.next hsub hmem
        clear hlqa hGa hg9 hG hlq hM hsub hmem c0 c2
        go_wp2
        go_roundw
        case rel => exact ⟨i + 1, FF, _, by omega, by go_num, ho9, hG9, by rw [HNI.out] at hM9; exact hM9⟩
        case measure => simp [intOf]; omega
  have HI6 : Hid (i = 6) := by show i = 6; omega
  go_upto_region 35 with fail
  obtain ⟨w8, rfl⟩ : ∃ w8, w8 = wr := ⟨_, rfl⟩
  have hch8 := hF.ch
  have hStd8 := hStd.ch hch8 hStdS
  have hD8 := hD7.ch hch8 (fun q hq s => by have h1 := hDl q hq; have h2 := hSlo q s; omega)
  have y08 := hch8.cell y0 hXS
  have y28 := hch8.cell y2 hXS
  have b28 : Below w2.heap.size w2 w8 := b27.trans (hch8.below hSlo b27.size)
  have bw8 : Below w.heap.size w w8 := b2.trans (b28.mono b2.size)
  have hrow8 : ∀ j, j < 6 → w8.ownsRow w2.heap.size 3 1 (R 2 j) (nI j) (Fi.mks (nI j) j (nI j)) := fun j hj => hF.rows _ (hM.1 j hj)
  have hlong8 : ∀ j, j < 6 → w8.ownsRow w2.heap.size 3 1 (G j) (nI j + 70) (Fi.mks (nI j) j (nI j + 70)) := fun j hj => hF.rows _ (hM.2 j (by have := HI6.out; omega))
  have hlst8 := hF.lst
  obtain ⟨lgb, lgc, rfl, hlc1, hlc2⟩ := own_block hlg (by have := HI6.out; omega)
  have hlg8 := hlg
  rw [HI6.out] at hlg8
  have HLG : Hid (w8.ownsRow w7.heap.size 23 1 (.slice (some ⟨lgb, 0, none⟩) 6 lgc) 6 ((List.range 6).map G)) := hlg8
  obtain ⟨n6, hn6⟩ : ∃ n6, n6 = i := ⟨_, rfl⟩
  rw [← hn6]
  have HN6 : Hid (n6 = 6) := by show n6 = 6; rw [hn6]; exact HI6.out
  have hn6l : n6 ≤ 6 := by have := HN6.out; omega
  obtain ⟨w9, hw9⟩ : ∃ w9, w9 = w8.alloc (.cells #[.slice none 0 0, .slice none 0 0, .slice none 0 0, .slice none 0 0] 74) := ⟨_, rfl⟩
  have b9 : Below w8.heap.size w8 w9 := by rw [hw9]; exact (Below.refl _ _).alloc (Nat.le_refl _) _
  have hLS9 := ls_new w8 w9 w8.heap.size rfl (by
    intro f hf
    rw [hw9]
    match f, hf with
    | 0, _ => simp [go_sem]
    | 1, _ => simp [go_sem]
    | 2, _ => simp [go_sem]
    | 3, _ => simp [go_sem]) (by intro j; rw [hw9]; simp [go_sem]) (by rw [hw9]; simp) b9
  obtain ⟨Y, hY⟩ : ∃ Y, Y = w8.heap.size := ⟨_, rfl⟩
  have HW9 : Hid (w8.alloc (.cells #[.slice none 0 0, .slice none 0 0, .slice none 0 0, .slice none 0 0] 74) = w9) := hw9.symm
  have HYE : Hid (w8.heap.size = Y) := hY.symm
  rw [← hY] at hLS9
  clear hw9 hn6 hlg8 hlg HI6 hF hM hch8 hStd hD7 y0 y2 b27 hStdS hSlo hXS hSl7 HSI hSI1 hdis2 hlo2 hc2 hcli hDl HLI hX7 hXl2 hXl hi6 hlt c2 hY
  go_wp2_with fail
  rw [HW9.out, HYE.out]
  refine Calls.mono (HAA.out w8 w9 Y _ _ _ _ _ (bw8.trans (b9.mono bw8.size)) hLS9 (by intro f _; omega)) ?_
  rintro e w10 ⟨rfl, col1, N1, lv1, R1, C1, L1, F1, hLS10, hN1, hRC1, hby1, hin1, hco1, hCh1⟩
  obtain ⟨hg1, hl1⟩ := good_asked good_new (by intro i hi; simp at hi) hN1 hRC1 hby1 hin1
  have hN1b : ∀ f, f < 4 → N1 f ≤ 100 := fun f hf => by rw [hN1 f hf]; show 0 + 1 ≤ 100; decide
  clear hRC1 hby1 hin1 hco1 hCh1 hLS9 HW9 HYE
  go_wp2_with fail
  refine Calls.mono (HAB.out w8 w10 Y col1 N1 lv1 R1 C1 (bw8.trans (hLS10.ch.mono bw8.size)) hLS10 hN1b) ?_
  rintro e w11 ⟨rfl, col3, N3, lv3, R3, C3, L3, F3, hLS11, hN3, hRC3, hby3, hin3, hco3, hCh3⟩
  obtain ⟨hg3, hl3⟩ := good_asked hg1 hl1 hN3 hRC3 hby3 hin3
  have hN3b : ∀ f, f < 4 → N3 f ≤ 100 := fun f hf => by rw [hN3 f hf, hN1 f hf]; show 0 + 1 + 1 ≤ 100; decide
  clear hRC3 hby3 hin3 hco3 hCh3 hLS10 hg1 hl1
  go_wp2_with fail
  refine (as_any w8 w11 Y col3 N3 lv3 R3 C3 hLS11 hg3 hN3b).mono ?_
  rintro e w12 ⟨rfl, hb12⟩
  have hB12 : Below w8.heap.size w8 w12 := hLS11.ch.trans (hb12.mono hLS11.ch.size)
  clear hb12 hLS11 hg3 hl3 hN1 hN3 hN1b hN3b
  go_wp2_with fail
  refine (doneB_any D vd 65535 [2, 3] w12 (hD8.below hB12) (by simp)).mono ?_
  rintro e w13 ⟨gd, rfl, hod, hb13⟩
  have hB13 : Below w8.heap.size w8 w13 := hB12.trans (hb13.mono hB12.size)
  have HS13 : Hid _ := same_eq' (some ⟨gd, 0, none⟩) (some ⟨w13.heap.size, 0, none⟩) 2 2 2 [2, 3] (w13.alloc (.cells #[.int .u8 2, .int .u8 3] 5)) rfl ((owns_seg_at hod).old ((Below.refl _ _).alloc (Nat.le_refl _) _)) (seg_new3 w13 .u8 5 [2, 3]) (by decide)
  obtain ⟨w14, hw14⟩ : ∃ w14, w14 = w13.alloc (.cells #[.int .u8 2, .int .u8 3] 5) := ⟨_, rfl⟩
  have hB14 : Below w8.heap.size w8 w14 := by rw [hw14]; exact hB13.alloc hB13.size _
  have HW14 : Hid (w13.alloc (.cells #[.int .u8 2, .int .u8 3] 5) = w14) := hw14.symm
  rw [← hw14] at HS13
  have hX8 := World.block_lt_of_cell? w8 _ y08
  have y0e : w14.cell? ⟨X, 0, none⟩ = some (.slice (some ⟨lb, 0, none⟩) 12 lc) := (hB14.cell hX8).trans y08
  have HT14 : Hid (Calls Try.prog 17 #[.slice (some ⟨lb, 0, none⟩) 12 lc, .slice (some ⟨mb, 0, none⟩) (3 * 12) mc] w14 fun e w' => e = .returned (.bool true) ∧ w14 = w') := Fm.stand_any _ _ _ _ _ _ _ _ _ _ w14 (hStd8.below hB14) (by decide) hnBb
  clear hw14 hod hb13 hB12 hB13
  go_wp2_with fail
  rw [HW14.out]
  refine Calls.mono HS13.out ?_
  rintro e w' ⟨rfl, rfl⟩
  go_wp2_with fail
  refine Calls.mono HT14.out ?_
  rintro e w' ⟨rfl, rfl⟩
  have bw14 : Below w.heap.size w w14 := bw8.trans (hB14.mono bw8.size)
  have y2e : w14.cell? ⟨X, 2, none⟩ = some (.slice (some ⟨li, 0, none⟩) 6 lic) := (hB14.cell hX8).trans y28
  have hrowE : ∀ j, j < 6 → w14.ownsRow w2.heap.size 3 1 (R 2 j) (nI j) (Fi.mks (nI j) j (nI j)) := fun j hj => kept (hrow8 j hj) hB14
  have hlongE : ∀ j, j < 6 → w14.ownsRow w2.heap.size 3 1 (G j) (nI j + 70) (Fi.mks (nI j) j (nI j + 70)) := fun j hj => kept (hlong8 j hj) hB14
  have hlstE := kept hlst8 hB14
  have hlgE := kept HLG.out hB14
  clear HS13 HT14 HW14 y0e y08 y28 hrow8 hlong8 hlst8 HLG hStd8 hD8 hB14 b28 bw8
  go_wp2
  go_loop [27] (fun ix => ∃ i : Nat, i ≤ n6 ∧ ix = .int .i64 i) (fun ix => 6 - (intOf ix).toNat)
  case atStart => exact ⟨0, by omega, rfl⟩
  case round =>
  obtain ⟨i, hi6, rfl⟩ := hrel
  by_cases hlt : i < n6
  · have hlt6 : i < 6 := by omega
    obtain ⟨gv, gc, eg, _, _⟩ := own_block (hlongE i hlt6) (by omega)
    obtain ⟨va, vc, ev⟩ := owns_shape (hrowE i hlt6)
    have cg := Fi.lst_cell' hlgE i hlt6
    have cv := Fi.lst_cell' hlstE i hlt6
    rw [eg] at cg
    rw [ev] at cv
    have HEG : Hid (G i = .slice (some ⟨gv, 0, none⟩) (nI i + 70) gc) := eg
    have HEV : Hid (R 2 i = .slice va (nI i) vc) := ev
    have hni := hnIb i
    obtain ⟨ni, hnie⟩ : ∃ ni, ni = nI i := ⟨_, rfl⟩
    rw [← hnie] at hni cg cv
    have HNI : Hid (nI i = ni) := hnie.symm
    have hdi : decide ((i : Int) < (n6 : Int)) = true := decide_eq_true (by omega)
    clear eg ev hnie
    go_wp2
    go_loop [28] (fun ix => ∃ k : Nat, k ≤ ni + 70 ∧ ix = .int .i64 k) (fun ix => ni + 70 - (intOf ix).toNat)
    case atStart => exact ⟨0, by omega, rfl⟩
    case round =>
      obtain ⟨k, hk, rfl⟩ := hrel
      by_cases hkl : k < ni + 70
      · have ck : w14.cell? ⟨gv, k, none⟩ = some (.int .i64 (-1 - (i : Int))) := by
          have := hlongE i hlt6
          rw [HEG.out] at this
          rw [this.cellAt k (by rw [HNI.out]; omega)]
          exact Fi.mks_get _ _ _ _ (by rw [HNI.out]; exact hkl)
        have hne : ((-1 - (i : Int)) != (-1 - (i : Int))) = false := by simp
        by_cases hkn : k < ni
        · have hrow := hrowE i hlt6
          obtain ⟨g2, cv2, ev2, _, _⟩ := own_block hrow (by rw [HNI.out]; omega)
          have ev3 := ev2
          rw [HEV.out] at ev3
          simp only [Value.slice.injEq, true_and] at ev3
          obtain ⟨rfl, rfl⟩ := ev3
          rw [ev2] at hrow
          have vk : w14.cell? ⟨g2, k, none⟩ = some (.int .i64 (-1 - (i : Int))) := by
            rw [hrow.cellAt k (by rw [HNI.out]; omega)]
            exact Fi.mks_get _ _ _ _ (by rw [HNI.out]; exact hkn)
          clear hrow ev2
          go_wp2
          go_round
          case rel => exact ⟨k + 1, by omega, by go_num⟩
          case measure => simp [intOf]; omega
        · have hkd : decide ((k : Int) < (ni : Int)) = false := decide_eq_false (by omega)
          go_wp2
          go_round
          case rel => exact ⟨k + 1, by omega, by go_num⟩
          case measure => simp [intOf]; omega
      · go_wp2
        go_round
        case rel => exact ⟨i + 1, by omega, by go_num⟩
        case measure => simp [intOf]; omega
  · go_wp2_with fail
    refine (started_any _).mono ?_
    rintro e w15 ⟨rfl, hb15⟩
    go_wp2
    go_ret
    exact ⟨rfl, bw14.trans (hb15.mono bw14.size)⟩
end Go.Proofs.Ytcgfdhmegagjdaa.viewLent
