/-
  The walk of LinkPads: it answers true, whatever it is handed, and writes nothing that was there.
-/
import Derived.Test.YtdglaigelpghdaaL5Open
namespace Go.Proofs.Ytdglaigelpghdaa.linkPads
open Go.RowKit

def full (c k : Nat) (l : List Nat) : List Nat := List.replicate k c ++ l.drop k
theorem full_set (c k : Nat) (l : List Nat) (h : k < l.length) : (full c k l).set k c = full c (k + 1) l := by
  unfold full
  rw [List.set_append_right _ _ (by simp), List.length_replicate, Nat.sub_self, List.drop_eq_getElem_cons h, List.set_cons_zero, List.replicate_succ']
  simp
theorem full_len (c k : Nat) (l : List Nat) (h : k ≤ l.length) : (full c k l).length = l.length := by simp [full]; omega
theorem full_all (c : Nat) (l : List Nat) : full c l.length l = List.replicate l.length c := by simp [full]
theorem full_zero (c : Nat) (l : List Nat) : full c 0 l = l := by simp [full]
theorem toI_set (l : List Nat) (i x : Nat) : ((toI l).map (Value.int .u8)).set i (.int .u8 (x : Int)) = (toI (l.set i x)).map (Value.int .u8) := by
  simp [toI, List.map_set]
theorem _root_.Go.Proofs.Ytdglaigelpghdaa.OwnB.mono {w : World} {B B' n : Nat} {v : Value} {l : List Nat} (h : OwnB w B v n l) (hb : B' ≤ B) : OwnB w B' v n l := owns_mono h hb
abbrev marks : List Nat := [201, 202, 203, 204, 205]
theorem one_own {w w' : World} {B n g : Nat} {v : Value} {l : List Nat} (h : OwnB w B v n l) {r : Option Nat} (hg : w.grownBy w' r) (hr : r = some g) (hne : v.ownBlock ≠ some g) : OwnB w' B v n l :=
  h.kept hg (by subst hr; exact .inr hne)
/-- what is there while the two answers are written full -/
structure St (w0 w : World) (g1 g2 g4 cp : Nat) (v3 v6 : Value) (N m : Nat) (T L1 L4 : List Nat) : Prop where
  one : OwnB w w0.heap.size (.slice (some ⟨g1, 0, none⟩) 60 60) 60 L1
  all : OwnB w w0.heap.size (.slice (some ⟨g2, 0, none⟩) (m + 5) cp) (m + 5) (T ++ marks)
  was : OwnB w w0.heap.size v3 (m + 5) (T ++ marks)
  p : OwnB w w0.heap.size (.slice (some ⟨g4, 0, none⟩) N N) N L4
  want : OwnB w w0.heap.size v6 N (padL T)
  bel : Below w0.heap.size w0 w
  d12 : g1 ≠ g2
  d14 : g1 ≠ g4
  d24 : g2 ≠ g4
  w1 : v3.ownBlock ≠ some g1
  w4 : v3.ownBlock ≠ some g4
  t1 : v6.ownBlock ≠ some g1
  t4 : v6.ownBlock ≠ some g4
variable {w0 w w' : World} {g1 g2 g4 cp : Nat} {v3 v6 : Value} {N m : Nat} {T L1 L4 : List Nat}
theorem sb {g n c : Nat} {k : Nat} (h : k ≠ g) : (Value.slice (some ⟨g, 0, none⟩) n c).ownBlock ≠ some k := by
  simp only [Value.ownBlock]
  intro e
  simp at e
  omega
theorem St.set1 (h : St w0 w g1 g2 g4 cp v3 v6 N m T L1 L4) (j x : Nat) : St w0 (w.setCell ⟨g1, j, none⟩ (.int .u8 (x : Int))) g1 g2 g4 cp v3 v6 N m T (L1.set j x) L4 := by
  obtain ⟨s1, s2⟩ := h.one.stored j (.int .u8 (x : Int))
  rw [toI_set] at s1
  exact ⟨s1, one_own h.all s2 rfl (sb h.d12), one_own h.was s2 rfl h.w1, one_own h.p s2 rfl (sb h.d14), one_own h.want s2 rfl h.t1, h.bel.grown s2 h.bel.size (by intro i hi; simp at hi; have := (h.one.lt g1 rfl).1; omega), h.d12, h.d14, h.d24, h.w1, h.w4, h.t1, h.t4⟩
theorem St.set4 (h : St w0 w g1 g2 g4 cp v3 v6 N m T L1 L4) (j x : Nat) : St w0 (w.setCell ⟨g4, j, none⟩ (.int .u8 (x : Int))) g1 g2 g4 cp v3 v6 N m T L1 (L4.set j x) := by
  obtain ⟨s1, s2⟩ := h.p.stored j (.int .u8 (x : Int))
  rw [toI_set] at s1
  exact ⟨one_own h.one s2 rfl (sb (Ne.symm h.d14)), one_own h.all s2 rfl (sb (Ne.symm h.d24)), one_own h.was s2 rfl h.w4, s1, one_own h.want s2 rfl h.t4, h.bel.grown s2 h.bel.size (by intro i hi; simp at hi; have := (h.p.lt g4 rfl).1; omega), h.d12, h.d14, h.d24, h.w1, h.w4, h.t1, h.t4⟩
theorem own_cell {w : World} {B g n c : Nat} {l : List Nat} (h : OwnB w B (.slice (some ⟨g, 0, none⟩) n c) n l) (j : Nat) (hj : j < n) : w.cell? ⟨g, j, none⟩ = some (.int .u8 ((l.getD j 0 : Nat) : Int)) ∧ w.frozen? ⟨g, j, none⟩ = false := by
  have hl := h.len
  refine ⟨?_, h.frozenAt j⟩
  rw [h.cellAt j (by omega)]; simp [toI, List.getD, show j < l.length by omega]
/-- the list is full of one number -/
theorem rep_cell {w : World} {B g n c x : Nat} (h : OwnB w B (.slice (some ⟨g, 0, none⟩) n c) n (List.replicate n x)) (j : Nat) (hj : j < n) : w.cell? ⟨g, j, none⟩ = some (.int .u8 (x : Int)) := by
  rw [(own_cell h j hj).1]; simp [List.getD, hj]
theorem rep_two (n x : Nat) : (toI (List.replicate n x)).map (Value.int .u8) ++ [Value.int .u8 (x : Int), Value.int .u8 (x : Int)] = (toI (List.replicate (n + 2) x)).map (Value.int .u8) := by
  rw [show n + 2 = (n + 1) + 1 from rfl, List.replicate_succ', List.replicate_succ']
  simp [toI]
theorem pad12 : padL [1, 2] = 1 :: 2 :: List.replicate 58 0 := rfl
theorem seg_pre {w : World} {g : Nat} {l k : List Nat} (h : Seg .u8 w (some ⟨g, 0, none⟩) (toI (l ++ k))) : Seg .u8 w (some ⟨g, 0, none⟩) (toI l) := by
  have := h.part0 l.length (by rw [toI_len]; simp)
  rwa [toI_take, List.take_left] at this
theorem new_ne {w w' : World} {v : Value} {n : Nat} {xs : List Value} {e : TypeId} {g : Nat} (h : w'.ownsRow w.heap.size e 1 v n xs) (hg : g < w.heap.size) : v.ownBlock ≠ some g := fun e' => by
  have := (h.lt g e').1; omega

theorem app8 {a6 : Option Addr} {c6 : Nat} {v8 : Value} {w8 : World} {o : Obj} (h : St w0 w g1 g2 g4 cp v3 (.slice a6 N c6) N m T (List.replicate 60 77) (List.replicate N 78)) (ho : w8.ownsRow w0.heap.size 5 1 v8 (60 + 2) ((toI (List.replicate 60 77)).map (Value.int .u8) ++ [.int .u8 77, .int .u8 77]))
    (hg : ((w.alloc o).grownBy w8 none ∧ ∀ q, v8.ownBlock = some q → w.heap.size + 1 ≤ q) ∨ ((w.alloc o).grownBy w8 (Value.slice (some ⟨g1, 0, none⟩) 60 60).ownBlock ∧ v8.ownBlock = (Value.slice (some ⟨g1, 0, none⟩) 60 60).ownBlock ∧ ¬ (Value.slice (some ⟨g1, 0, none⟩) 60 60).ownBlock = none)) :
    OwnB w8 w0.heap.size v8 62 (List.replicate 62 77) ∧ OwnB w8 w0.heap.size (.slice (some ⟨g2, 0, none⟩) (m + 5) cp) (m + 5) (T ++ marks) ∧ OwnB w8 w0.heap.size v3 (m + 5) (T ++ marks) ∧ OwnB w8 w0.heap.size (.slice (some ⟨g4, 0, none⟩) N N) N (List.replicate N 78) ∧ OwnB w8 w0.heap.size (.slice a6 N c6) N (padL T) ∧ Below w0.heap.size w0 w8 ∧ v8.ownBlock ≠ some g4 := by
  have e : OwnB w8 w0.heap.size v8 62 (List.replicate 62 77) := by
    have h2 := rep_two 60 77
    rw [OwnB, ← h2]; exact ho
  have g' : (w.alloc o).grownBy w8 (some g1) := by
    rcases hg with ⟨g, _⟩ | ⟨g, _⟩
    · exact ⟨g.os, g.tape, g.output, g.size, fun j hj _ => g.block j hj (by simp)⟩
    · exact g
  have h4 := (h.p.lt g4 rfl).2
  have hne : v8.ownBlock ≠ some g4 := fun e => by
    rcases hg with ⟨_, g⟩ | ⟨_, g, _⟩
    · have := g g4 e; omega
    · rw [g] at e
      exact sb (Ne.symm h.d14) e
  have hb := h.bel.alloc h.bel.size o
  exact ⟨e, one_own (h.all.alloc o) g' rfl (sb h.d12), one_own (h.was.alloc o) g' rfl h.w1, one_own (h.p.alloc o) g' rfl (sb h.d14), one_own (h.want.alloc o) g' rfl h.t1, hb.grown g' hb.size (by intro i hi; simp at hi; have := (h.one.lt g1 rfl).1; omega), hne⟩
theorem app9 {a6 : Option Addr} {c6 : Nat} {v8 v9 : Value} {w8 w9 : World} {o : Obj} (h : OwnB w8 w0.heap.size v8 62 (List.replicate 62 77) ∧ OwnB w8 w0.heap.size (.slice (some ⟨g2, 0, none⟩) (m + 5) cp) (m + 5) (T ++ marks) ∧ OwnB w8 w0.heap.size v3 (m + 5) (T ++ marks) ∧ OwnB w8 w0.heap.size (.slice (some ⟨g4, 0, none⟩) N N) N (List.replicate N 78) ∧ OwnB w8 w0.heap.size (.slice a6 N c6) N (padL T) ∧ Below w0.heap.size w0 w8 ∧ v8.ownBlock ≠ some g4)
    (d24 : g2 ≠ g4) (w4 : v3.ownBlock ≠ some g4) (t4 : (Value.slice a6 N c6).ownBlock ≠ some g4)
    (ho : w9.ownsRow w0.heap.size 5 1 v9 (N + 2) ((toI (List.replicate N 78)).map (Value.int .u8) ++ [.int .u8 78, .int .u8 78]))
    (hg : ((w8.alloc o).grownBy w9 none ∧ ∀ q, v9.ownBlock = some q → w8.heap.size + 1 ≤ q) ∨ ((w8.alloc o).grownBy w9 (Value.slice (some ⟨g4, 0, none⟩) N N).ownBlock ∧ v9.ownBlock = (Value.slice (some ⟨g4, 0, none⟩) N N).ownBlock ∧ ¬ (Value.slice (some ⟨g4, 0, none⟩) N N).ownBlock = none)) :
    OwnB w9 w0.heap.size v8 62 (List.replicate 62 77) ∧ OwnB w9 w0.heap.size (.slice (some ⟨g2, 0, none⟩) (m + 5) cp) (m + 5) (T ++ marks) ∧ OwnB w9 w0.heap.size v3 (m + 5) (T ++ marks) ∧ OwnB w9 w0.heap.size v9 (N + 2) (List.replicate (N + 2) 78) ∧ OwnB w9 w0.heap.size (.slice a6 N c6) N (padL T) ∧ Below w0.heap.size w0 w9 := by
  obtain ⟨h1, h2, h3, h4, h5, h6, h7⟩ := h
  have g' : (w8.alloc o).grownBy w9 (some g4) := by
    rcases hg with ⟨g, _⟩ | ⟨g, _⟩
    · exact ⟨g.os, g.tape, g.output, g.size, fun j hj _ => g.block j hj (by simp)⟩
    · exact g
  have hb := h6.alloc h6.size o
  exact ⟨one_own (h1.alloc o) g' rfl h7, one_own (h2.alloc o) g' rfl (sb (Ne.symm d24)), one_own (h3.alloc o) g' rfl w4, by rw [OwnB, ← rep_two]; exact ho, one_own (h5.alloc o) g' rfl t4, hb.grown g' hb.size (by intro i hi; simp at hi; have := (h4.lt g4 rfl).1; omega)⟩
theorem same_true {w : World} {B B' n : Nat} {v v' : Value} {l : List Nat} (h : OwnB w B v n l) (h' : OwnB w B' v' n l) (hn : n ≤ 9223372036854775807) : ∃ a c a' c', v = .slice a n c ∧ v' = .slice a' n c' ∧ Calls Try.prog 10 #[.slice a n c, .slice a' n c'] w fun e w' => e = .returned (.bool true) ∧ Below w.heap.size w w' := by
  obtain ⟨a, c, rfl, hs, _⟩ := owns_seg h
  obtain ⟨a', c', rfl, hs', _⟩ := owns_seg h'
  have := same_any a a' n n c c' l l w h.len h'.len hs hs' hn
  rw [decide_eq_true rfl] at this
  exact ⟨a, c, a', c', rfl, rfl, this⟩

set_option maxRecDepth 100000 in
set_option maxHeartbeats 6400000 in
theorem walk1 (a : Option Addr) (n c m : Nat) (l : List Nat) (x : Nat → Nat) (w : World) (hl : l.length = n) (hx : ∀ i, x i < 256) (hm : m = min n 70000)
    (Hlaid : ∀ w', Below w.heap.size w w' → Calls Try.prog 7 #[.slice a n c] w' fun e w'' => ∃ g cp, e = .returned (.tuple #[.slice (some ⟨g, 0, none⟩) m cp, .slice (some ⟨g, 0, none⟩) (m + 5) cp]) ∧ OwnB w'' w'.heap.size (.slice (some ⟨g, 0, none⟩) (m + 5) cp) (m + 5) (l.take m ++ [201, 202, 203, 204, 205]) ∧ Below w'.heap.size w' w'') :
    Calls Try.prog 3 #[.slice a n c, .agg (macCells x)] w fun e w' => e = .returned (.bool true) ∧ Below w.heap.size w w' := by
  obtain ⟨i0, hi, hz0, hz1, hz2⟩ := info_parts Try.infoByte
  obtain ⟨T, hT⟩ : ∃ T, T = l.take m := ⟨_, rfl⟩
  have HTL : Hid (T.length = m) := by show _ = _; rw [hT, List.length_take, hl, hm]; omega
  have HLD : Hid _ := Hlaid
  rw [← hT] at HLD
  have hm7 : m ≤ 70000 := by omega
  clear Hlaid hl hm hT
  obtain ⟨N, hN⟩ : ∃ N, N = max m 60 := ⟨_, rfl⟩
  have HN : Hid (N = max m 60) := hN
  have hNm : N ≤ 70000 := by omega
  clear hN
  have HM0 : Hid (∀ t, ((w.alloc (.cells (macCells x) 24)).alloc (.cells #[.int .u8 1, .int .u8 2] t)).heap[w.heap.size]? = some (.cells (macCells x) 24 (0, 0))) := by
    intro t
    rw [heap_alloc_old _ _ (by simp)]
    exact heap_alloc_new _ _
  obtain ⟨C, hC⟩ : ∃ C, C = macCells x := ⟨_, rfl⟩
  have Q1 : Hid _ := pad_any (some ⟨w.heap.size + 1, 0, none⟩) 2 2 [1, 2] ((w.alloc (.cells C 24)).alloc (.cells #[.int .u8 1, .int .u8 2] 5)) rfl (by have h := seg_new3 (w.alloc (.cells C 24)) .u8 5 [1, 2]; simpa [toI] using h) (by omega)
  have hb0 : Below w.heap.size w ((w.alloc (.cells C 24)).alloc (.cells #[.int .u8 1, .int .u8 2] 5)) := ((Below.refl _ _).alloc (Nat.le_refl _) _).alloc (by simp) _
  rw [← hC] at HM0
  have HC : Hid (C = macCells x) := hC
  rw [← hC]
  clear hC
  go_enter Try.func3, Try.ntmps3
  go_wp2_with fail
  refine Calls.mono Q1.out ?_
  rintro e w1 ⟨g1, rfl, ho1, hq1⟩
  clear Q1
  have hb1 := hb0.trans (hq1.mono hb0.size)
  have hmac : MacAt w1 w.heap.size x := by
    unfold MacAt
    rw [← HC.out]
    refine (hq1.block w.heap.size ?_).trans (HM0.out _)
    exact (Array.getElem?_eq_some_iff.1 (HM0.out 5)).1
  replace ho1 := OwnB.mono ho1 hb0.size
  rw [pad12, show max 2 60 = 60 from rfl] at ho1
  have c10 : w1.cell? ⟨g1, 0, none⟩ = some (.int .u8 1) := (own_cell ho1 0 (by decide)).1
  have c12 : w1.cell? ⟨g1, 2, none⟩ = some (.int .u8 0) := (own_cell ho1 2 (by decide)).1
  have HX : Hid (∀ i, x i < 256) := hx
  clear hq1 HM0 hb0 hx
  go_wp2
  refine MixH.start (fun w' => MacAt w' w.heap.size x ∧ w'.cell? ⟨g1, 0, none⟩ = some (.int .u8 1) ∧ w'.cell? ⟨g1, 2, none⟩ = some (.int .u8 0)) (by kernel_rfl) ?_
  have hS : MacAt w1.drew w.heap.size x ∧ w1.drew.cell? ⟨g1, 0, none⟩ = some (.int .u8 1) ∧ w1.drew.cell? ⟨g1, 2, none⟩ = some (.int .u8 0) := ⟨hmac, c10, c12⟩
  replace hb1 := hb1.drew
  replace ho1 : OwnB w1.drew w.heap.size (.slice (some ⟨g1, 0, none⟩) 60 60) 60 (1 :: 2 :: List.replicate 58 0) := owns_drew ho1
  obtain ⟨wA, hwA⟩ : ∃ wA, wA = w1.drew := ⟨_, rfl⟩
  rw [← hwA] at hS hb1 ho1 ⊢
  clear hmac c10 c12 hwA HC
  have hx := HX.out
  refine MixH.takes [true, true, true, true] 23 (by kernel_rfl) (by kernel_rfl) (by decide) (by kernel_rfl) hS (fun K hK => ?_)
  simp only [Mix.pick]
  repeat (go_big_quiet_step (fail))
  refine wpQuiet_nil (hK _ ?_)
  clear hK K
  refine MixH.takes [false, false, false, false, true, true] 21 (by kernel_rfl) (by kernel_rfl) (by decide) (by kernel_rfl) hS (fun K hK => ?_)
  simp only [Mix.pick]
  repeat (go_big_quiet_step (fail))
  refine wpQuiet_nil (hK _ ?_)
  clear hK K
  refine MixH.take 20 6 _ (.int .u8 1) rfl (by kernel_rfl) (by kernel_rfl) (by kernel_rfl) (by kernel_rfl) (yields_cell (.tmp 25) rfl ⟨g1, 0, none⟩ _ rfl rfl rfl (fun w h => h.2.1)) hS (fun a' ha => ?_)
  simp only [Act.put, List.setIfInBounds_toArray, List.set_cons_succ, List.set_cons_zero] at ha
  subst ha
  refine MixH.takes [false, false, false, false, false, false, false, true, true, true] 17 (by kernel_rfl) (by kernel_rfl) (by decide) (by kernel_rfl) hS (fun K hK => ?_)
  simp only [Mix.pick]
  repeat (go_big_quiet_step (fail))
  refine wpQuiet_nil (hK _ ?_)
  clear hK K
  refine MixH.takes [false, false, false, false, false, false, false, false, false, false, true, true] 15 (by kernel_rfl) (by kernel_rfl) (by decide) (by kernel_rfl) hS (fun K hK => ?_)
  simp only [Mix.pick]
  repeat (go_big_quiet_step (fail))
  refine wpQuiet_nil (hK _ ?_)
  clear hK K
  refine MixH.take 14 12 _ (.int .u8 0) rfl (by kernel_rfl) (by kernel_rfl) (by kernel_rfl) (by kernel_rfl) (yields_cell (.tmp 31) rfl ⟨g1, 2, none⟩ _ rfl rfl rfl (fun w h => h.2.2)) hS (fun a' ha => ?_)
  simp only [Act.put, List.setIfInBounds_toArray, List.set_cons_succ, List.set_cons_zero] at ha
  subst ha
  refine MixH.takes [false, false, false, false, false, false, false, false, false, false, false, false, false, true, true, true] 11 (by kernel_rfl) (by kernel_rfl) (by decide) (by kernel_rfl) hS (fun K hK => ?_)
  simp only [Mix.pick]
  repeat (go_big_quiet_step (fail))
  refine wpQuiet_nil (hK _ ?_)
  clear hK K
  refine MixH.take 10 16 _ (.agg (macCells x)) rfl (by kernel_rfl) (by kernel_rfl) (by kernel_rfl) (by kernel_rfl) (yields_mac (.tmp 3) rfl w.heap.size x rfl rfl (fun w h => h.1)) hS (fun a' ha => ?_)
  simp only [Act.put, List.setIfInBounds_toArray, List.set_cons_succ, List.set_cons_zero] at ha
  subst ha
  refine MixH.take 9 18 _ (.agg (macCells x)) rfl (by kernel_rfl) (by kernel_rfl) (by kernel_rfl) (by kernel_rfl) (yields_mac (.tmp 3) rfl w.heap.size x rfl rfl (fun w h => h.1)) hS (fun a' ha => ?_)
  simp only [Act.put, List.setIfInBounds_toArray, List.set_cons_succ, List.set_cons_zero] at ha
  subst ha
  refine MixH.one [false, false, false, false, false, false, false, false, false, false, false, false, false, false, false, false, false, true] 8 17 _ rfl rfl (by kernel_rfl) (by kernel_rfl) (fun K hK => ?_)
  simp only [Mix.pick]
  have Q : Hid _ := group_any (x 0) (x 1) (x 2) (x 3) (x 4) (x 5) (hx 0) wA
  go_wp2_with fail
  refine Calls.mono Q.out ?_
  rintro e wB ⟨rfl, hq⟩
  replace hb1 := hb1.trans (hq.mono hb1.size)
  replace ho1 := ho1.below hq
  replace hS : MacAt wB w.heap.size x ∧ wB.cell? ⟨g1, 0, none⟩ = some (.int .u8 1) ∧ wB.cell? ⟨g1, 2, none⟩ = some (.int .u8 0) := ⟨(hq.block w.heap.size (Array.getElem?_eq_some_iff.1 hS.1).1).trans hS.1, (hq.cell (p := ⟨g1, 0, none⟩) (World.block_lt_of_cell? _ _ hS.2.1)).trans hS.2.1, (hq.cell (p := ⟨g1, 2, none⟩) (World.block_lt_of_cell? _ _ hS.2.2)).trans hS.2.2⟩
  clear hq Q
  go_wp2
  refine ⟨rfl, hK _ _ hS ?_⟩
  clear hK K
  refine MixH.one [false, false, false, false, false, false, false, false, false, false, false, false, false, false, false, false, false, false, false, true] 7 19 _ rfl rfl (by kernel_rfl) (by kernel_rfl) (fun K hK => ?_)
  simp only [Mix.pick]
  have Q : Hid _ := groupR_any (x 0) (x 1) (x 2) (x 3) (x 4) (x 5) (hx 0) wB
  go_wp2_with fail
  refine Calls.mono Q.out ?_
  rintro e wC ⟨rfl, hq⟩
  replace hb1 := hb1.trans (hq.mono hb1.size)
  replace ho1 := ho1.below hq
  replace hS : MacAt wC w.heap.size x ∧ wC.cell? ⟨g1, 0, none⟩ = some (.int .u8 1) ∧ wC.cell? ⟨g1, 2, none⟩ = some (.int .u8 0) := ⟨(hq.block w.heap.size (Array.getElem?_eq_some_iff.1 hS.1).1).trans hS.1, (hq.cell (p := ⟨g1, 0, none⟩) (World.block_lt_of_cell? _ _ hS.2.1)).trans hS.2.1, (hq.cell (p := ⟨g1, 2, none⟩) (World.block_lt_of_cell? _ _ hS.2.2)).trans hS.2.2⟩
  clear hq Q
  go_wp2
  refine ⟨rfl, hK _ _ hS ?_⟩
  clear hK K
  refine MixH.takes [false, false, false, false, false, false, false, false, false, false, false, false, false, false, false, false, false, false, false, false, true, true, true] 4 (by kernel_rfl) (by kernel_rfl) (by decide) (by kernel_rfl) hS (fun K hK => ?_)
  simp only [Mix.pick]
  repeat (go_big_quiet_step (fail))
  refine wpQuiet_nil (hK _ ?_)
  clear hK K
  refine MixH.takes [false, false, false, false, false, false, false, false, false, false, false, false, false, false, false, false, false, false, false, false, false, false, false, true] 3 (by kernel_rfl) (by kernel_rfl) (by decide) (by kernel_rfl) hS (fun K hK => ?_)
  simp only [Mix.pick]
  repeat (go_big_quiet_step (fail))
  refine wpQuiet_nil (hK _ ?_)
  clear hK K
  refine MixH.one [false, false, false, false, false, false, false, false, false, false, false, false, false, false, false, false, false, false, false, false, false, false, false, false, true] 2 24 _ rfl rfl (by kernel_rfl) (by kernel_rfl) (fun K hK => ?_)
  simp only [Mix.pick]
  have Q : Hid _ := group_any 1 0 0 0 0 0 (by decide) wC
  go_wp2_with fail
  refine Calls.mono Q.out ?_
  rintro e wD ⟨rfl, hq⟩
  replace hb1 := hb1.trans (hq.mono hb1.size)
  replace ho1 := ho1.below hq
  replace hS : MacAt wD w.heap.size x ∧ wD.cell? ⟨g1, 0, none⟩ = some (.int .u8 1) ∧ wD.cell? ⟨g1, 2, none⟩ = some (.int .u8 0) := ⟨(hq.block w.heap.size (Array.getElem?_eq_some_iff.1 hS.1).1).trans hS.1, (hq.cell (p := ⟨g1, 0, none⟩) (World.block_lt_of_cell? _ _ hS.2.1)).trans hS.2.1, (hq.cell (p := ⟨g1, 2, none⟩) (World.block_lt_of_cell? _ _ hS.2.2)).trans hS.2.2⟩
  clear hq Q
  go_wp2
  refine ⟨rfl, hK _ _ hS ?_⟩
  clear hK K
  refine MixH.takes [false, false, false, false, false, false, false, false, false, false, false, false, false, false, false, false, false, false, false, false, false, false, false, false, false, true, true] 0 (by kernel_rfl) (by kernel_rfl) (by decide) (by kernel_rfl) hS (fun K hK => ?_)
  simp only [Mix.pick]
  repeat (go_big_quiet_step (fail))
  refine wpQuiet_nil (hK _ ?_)
  clear hK K
  refine MixH.done (by kernel_rfl) ?_
  have hg1 : g1 < wD.heap.size := (ho1.lt g1 rfl).2
  clear hS hx HX
  go_wp2_with fail
  refine Calls.mono (HLD.out wD hb1) ?_
  rintro e w2 ⟨g2, cp, rfl, ho2, hq2⟩
  have hb2 := hb1.trans (hq2.mono hb1.size)
  replace ho1 := ho1.below hq2
  have n2 := new_ne ho2 hg1
  have hg2 : g2 < w2.heap.size := (ho2.lt g2 rfl).2
  have hg1' : g1 < w2.heap.size := (ho1.lt g1 rfl).2
  replace ho2 := OwnB.mono ho2 hb1.size
  have d12 : g1 ≠ g2 := fun e => n2 (by rw [e]; rfl)
  clear hq2 HLD hb1 n2 hg1
  have Q3 : Hid _ := copied_any (some ⟨g2, 0, none⟩) (m + 5) cp (T ++ [201, 202, 203, 204, 205]) w2 ho2.len (owns_seg_at ho2).1 (by omega)
  have D12 : Hid (g1 ≠ g2) := d12
  clear d12
  go_wp2_with fail
  refine Calls.mono Q3.out ?_
  rintro e w3 ⟨v3, rfl, ho3, hq3⟩
  have hb3 := hb2.trans (hq3.mono hb2.size)
  replace ho1 := ho1.below hq3
  replace ho2 := ho2.below hq3
  have W1 : Hid (v3.ownBlock ≠ some g1) := new_ne ho3 hg1'
  have W2 : Hid (v3.ownBlock ≠ some g2) := new_ne ho3 hg2
  have V3 : Hid (∀ k, v3.ownBlock = some k → k < w3.heap.size) := fun k hk => (ho3.lt k hk).2
  replace ho3 := OwnB.mono ho3 hb2.size
  clear hq3 Q3 hb2 hg1' hg2
  have Q4 : Hid _ := pad_any (some ⟨g2, 0, none⟩) m cp T w3 HTL.out (seg_pre (owns_seg_at ho2).1) (by omega)
  rw [← HN.out] at Q4
  go_wp2_with fail
  refine Calls.mono Q4.out ?_
  rintro e w4 ⟨g4, rfl, ho4, hq4⟩
  have hb4 := hb3.trans (hq4.mono hb3.size)
  have D14 : Hid (g1 ≠ g4) := fun e => new_ne ho4 (ho1.lt g1 rfl).2 (by rw [e]; rfl)
  have D24 : Hid (g2 ≠ g4) := fun e => new_ne ho4 (ho2.lt g2 rfl).2 (by rw [e]; rfl)
  have W4 : Hid (v3.ownBlock ≠ some g4) := fun e => new_ne ho4 (V3.out g4 e) rfl
  replace ho1 := ho1.below hq4
  replace ho2 := ho2.below hq4
  replace ho3 := ho3.below hq4
  replace ho4 := OwnB.mono ho4 hb3.size
  clear hq4 Q4 hb3 V3
  have Q5 : Hid _ := copied_any (some ⟨g2, 0, none⟩) m cp T w4 HTL.out (seg_pre (owns_seg_at ho2).1) (by omega)
  go_wp2_with fail
  refine Calls.mono Q5.out ?_
  rintro e w5 ⟨v5, rfl, ho5, hq5⟩
  have hb5 := hb4.trans (hq5.mono hb4.size)
  replace ho1 := ho1.below hq5
  replace ho2 := ho2.below hq5
  replace ho3 := ho3.below hq5
  replace ho4 := ho4.below hq5
  obtain ⟨a5, c5, rfl, hs5, _⟩ := owns_seg ho5
  clear hq5 Q5 hb4 ho5
  have Q6 : Hid _ := padR_any a5 m c5 T w5 HTL.out hs5 (by omega)
  rw [← HN.out] at Q6
  go_wp2_with fail
  refine Calls.mono Q6.out ?_
  rintro e w6 ⟨v6, rfl, ho6, hq6⟩
  have hb6 := hb5.trans (hq6.mono hb5.size)
  have T1 : Hid (v6.ownBlock ≠ some g1) := new_ne ho6 (ho1.lt g1 rfl).2
  have T4 : Hid (v6.ownBlock ≠ some g4) := new_ne ho6 (ho4.lt g4 rfl).2
  replace ho1 := ho1.below hq6
  replace ho2 := ho2.below hq6
  replace ho3 := ho3.below hq6
  replace ho4 := ho4.below hq6
  replace ho6 := OwnB.mono ho6 hb5.size
  clear hq6 Q6 hb5 hs5
  obtain ⟨a4, c4, a6, c6, e4, e6, Q7⟩ := same_true ho4 ho6 (by omega)
  simp only [Value.slice.injEq] at e4
  obtain ⟨rfl, _, rfl⟩ := e4
  subst e6
  have Q7 : Hid _ := Q7
  go_wp2_with fail
  refine Calls.mono Q7.out ?_
  rintro e w7 ⟨rfl, hq7⟩
  have hb7 := hb6.trans (hq7.mono hb6.size)
  have S0 : Hid (St w w7 g1 g2 g4 cp v3 (.slice a6 N c6) N m T (1 :: 2 :: List.replicate 58 0) (padL T)) := ⟨ho1.below hq7, ho2.below hq7, ho3.below hq7, ho4.below hq7, ho6.below hq7, hb7, D12.out, D14.out, D24.out, W1.out, W4.out, T1.out, T4.out⟩
  clear hq7 Q7 hb6 hb7 ho1 ho2 ho3 ho4 ho6 D12 D14 D24 W1 W2 W4 T1 T4
  go_wp2
  go_loopw [11] (fun ix wr => ∃ k : Nat, k ≤ 60 ∧ ix = .int .i64 k ∧ Hid (St w wr g1 g2 g4 cp v3 (.slice a6 N c6) N m T (full 77 k (1 :: 2 :: List.replicate 58 0)) (padL T))) (fun ix _ => 60 - (intOf ix).toNat)
  case atStart => exact ⟨0, Nat.zero_le _, rfl, S0⟩
  case round =>
    obtain ⟨k, hk, rfl, S1⟩ := hrel
    clear S0
    by_cases hlt : k < 60
    · obtain ⟨cc, ff⟩ := own_cell S1.out.one k hlt
      have S2 : Hid _ := S1.out.set1 k 77
      rw [full_set 77 k _ (by simp; omega)] at S2
      obtain ⟨q, hq⟩ : ∃ q, q = (full 77 k (1 :: 2 :: List.replicate 58 0)).getD k 0 := ⟨_, rfl⟩
      rw [← hq] at cc
      clear hq S1
      go_wp2
      go_roundw
      case rel => exact ⟨k + 1, by omega, by go_num, S2⟩
      case measure => simp [intOf]; omega
    · have S2 : Hid (St w wr g1 g2 g4 cp v3 (.slice a6 N c6) N m T (List.replicate 60 77) (padL T)) := by
        have h := S1.out
        rw [show k = 60 by omega] at h
        exact h
      have hlt' : ¬ ((k : Int) < 60) := by omega
      clear S1 hlt
      go_wp2
      go_loopw [12] (fun ix wr => ∃ k : Nat, k ≤ N ∧ ix = .int .i64 k ∧ Hid (St w wr g1 g2 g4 cp v3 (.slice a6 N c6) N m T (List.replicate 60 77) (full 78 k (padL T)))) (fun ix _ => N - (intOf ix).toNat)
      case atStart => exact ⟨0, Nat.zero_le _, rfl, S2⟩
      case round =>
        obtain ⟨j, hj, rfl, S3⟩ := hrel
        clear S2
        by_cases hlt : j < N
        · obtain ⟨cc, ff⟩ := own_cell S3.out.p j hlt
          have S4 : Hid _ := S3.out.set4 j 78
          rw [full_set 78 j _ (by rw [padL_len, HTL.out, ← HN.out]; exact hlt)] at S4
          obtain ⟨q, hq⟩ : ∃ q, q = (full 78 j (padL T)).getD j 0 := ⟨_, rfl⟩
          rw [← hq] at cc
          clear hq S3
          go_wp2
          go_roundw
          case rel => exact ⟨j + 1, by omega, by go_num, S4⟩
          case measure => simp [intOf]; omega
        · have S4 : Hid (St w wr g1 g2 g4 cp v3 (.slice a6 N c6) N m T (List.replicate 60 77) (List.replicate N 78)) := by
            have h := S3.out
            have e : j = (padL T).length := by rw [padL_len, HTL.out, ← HN.out]; omega
            rw [e, full_all, padL_len, HTL.out, ← HN.out] at h
            exact h
          have hlt'' : ¬ ((j : Int) < (N : Int)) := by omega
          clear S3 hlt
          have D24' := S4.out.d24
          have W4' := S4.out.w4
          have T4' := S4.out.t4
          have D24' : Hid _ := D24'
          have W4' : Hid _ := W4'
          have T4' : Hid _ := T4'
          have o1 : (wr.alloc (.cells #[.int .u8 77, .int .u8 77] 5)).ownsRow w.heap.size 5 1 (.slice (some ⟨g1, 0, none⟩) 60 60) 60 ((toI (List.replicate 60 77)).map (Value.int .u8)) := S4.out.one.alloc _
          have hbA : Below w.heap.size w (wr.alloc (.cells #[.int .u8 77, .int .u8 77] 5)) := S4.out.bel.alloc S4.out.bel.size _
          go_wp2_with (first | (at_builtin; refine append_split rfl (.tmp 81) (.tmp 82) 22 rfl w.heap.size 5 i0 (.int .u8 0) 1 Try.underlying22 hi hz0 hz1 hz2 rfl (.slice (some ⟨g1, 0, none⟩) 60 60) 60 ((toI (List.replicate 60 77)).map (Value.int .u8)) rfl o1 ⟨wr.heap.size, 0, none⟩ 2 2 [.int .u8 77, .int .u8 77] rfl rfl (news_at _ _ _) (by intro u hu; simp at hu; subst hu; rfl) (by unfold maxLen; omega) (by omega) hbA.size ?_))
          intro v8 w8 ho8 hg8
          have F8 : Hid (OwnB w8 w.heap.size v8 62 (List.replicate 62 77) ∧ OwnB w8 w.heap.size (.slice (some ⟨g2, 0, none⟩) (m + 5) cp) (m + 5) (T ++ marks) ∧ OwnB w8 w.heap.size v3 (m + 5) (T ++ marks) ∧ OwnB w8 w.heap.size (.slice (some ⟨g4, 0, none⟩) N N) N (List.replicate N 78) ∧ OwnB w8 w.heap.size (.slice a6 N c6) N (padL T) ∧ Below w.heap.size w w8 ∧ v8.ownBlock ≠ some g4) := app8 S4.out ho8 hg8
          clear ho8 hg8 o1 hbA S4
          have o4 : (w8.alloc (.cells #[.int .u8 78, .int .u8 78] 5)).ownsRow w.heap.size 5 1 (.slice (some ⟨g4, 0, none⟩) N N) N ((toI (List.replicate N 78)).map (Value.int .u8)) := F8.out.2.2.2.1.alloc _
          have hbB : Below w.heap.size w (w8.alloc (.cells #[.int .u8 78, .int .u8 78] 5)) := F8.out.2.2.2.2.2.1.alloc F8.out.2.2.2.2.2.1.size _
          go_wp2_with (first | (at_builtin; refine append_split rfl (.tmp 84) (.tmp 85) 22 rfl w.heap.size 5 i0 (.int .u8 0) 1 Try.underlying22 hi hz0 hz1 hz2 rfl (.slice (some ⟨g4, 0, none⟩) N N) N ((toI (List.replicate N 78)).map (Value.int .u8)) rfl o4 ⟨w8.heap.size, 0, none⟩ 2 2 [.int .u8 78, .int .u8 78] rfl rfl (news_at _ _ _) (by intro u hu; simp at hu; subst hu; rfl) (by unfold maxLen; omega) (by omega) hbB.size ?_))
          intro v9 w9 ho9 hg9
          have F9 : Hid (OwnB w9 w.heap.size v8 62 (List.replicate 62 77) ∧ OwnB w9 w.heap.size (.slice (some ⟨g2, 0, none⟩) (m + 5) cp) (m + 5) (T ++ marks) ∧ OwnB w9 w.heap.size v3 (m + 5) (T ++ marks) ∧ OwnB w9 w.heap.size v9 (N + 2) (List.replicate (N + 2) 78) ∧ OwnB w9 w.heap.size (.slice a6 N c6) N (padL T) ∧ Below w.heap.size w w9) := app9 F8.out D24'.out W4'.out T4'.out ho9 hg9
          clear ho9 hg9 o4 hbB F8
          have Q8 : Hid _ := pad_any (some ⟨g2, 0, none⟩) m cp T w9 HTL.out (seg_pre (owns_seg_at F9.out.2.1).1) (by omega)
          rw [← HN.out] at Q8
          go_wp2_with fail
          refine Calls.mono Q8.out ?_
          rintro e wE ⟨gE, rfl, hoE, hqE⟩
          obtain ⟨aE, cE, aF, cF, eE, eF, Q9⟩ := same_true hoE (F9.out.2.2.2.2.1.below hqE) (by omega)
          simp only [Value.slice.injEq] at eE eF
          obtain ⟨rfl, _, rfl⟩ := eE
          obtain ⟨rfl, _, rfl⟩ := eF
          have Q9 : Hid _ := Q9
          have F10 : Hid (OwnB wE w.heap.size v8 62 (List.replicate 62 77) ∧ OwnB wE w.heap.size (.slice (some ⟨g2, 0, none⟩) (m + 5) cp) (m + 5) (T ++ marks) ∧ OwnB wE w.heap.size v3 (m + 5) (T ++ marks) ∧ OwnB wE w.heap.size v9 (N + 2) (List.replicate (N + 2) 78) ∧ Below w.heap.size w wE) := by
            obtain ⟨f1, f2, f3, f4, f5, f6⟩ := F9.out
            exact ⟨f1.below hqE, f2.below hqE, f3.below hqE, f4.below hqE, f6.trans (hqE.mono f6.size)⟩
          clear Q8 hoE hqE F9
          go_wp2_with fail
          refine Calls.mono Q9.out ?_
          rintro e wF ⟨rfl, hqF⟩
          have F11 : Hid (OwnB wF w.heap.size v8 62 (List.replicate 62 77) ∧ OwnB wF w.heap.size (.slice (some ⟨g2, 0, none⟩) (m + 5) cp) (m + 5) (T ++ marks) ∧ OwnB wF w.heap.size v3 (m + 5) (T ++ marks) ∧ OwnB wF w.heap.size v9 (N + 2) (List.replicate (N + 2) 78) ∧ Below w.heap.size w wF) := by
            obtain ⟨f1, f2, f3, f4, f6⟩ := F10.out
            exact ⟨f1.below hqF, f2.below hqF, f3.below hqF, f4.below hqF, f6.trans (hqF.mono f6.size)⟩
          clear Q9 hqF F10
          obtain ⟨aG, cG, aH, cH, eG, eH, Q10⟩ := same_true F11.out.2.1 F11.out.2.2.1 (by omega)
          simp only [Value.slice.injEq] at eG
          obtain ⟨rfl, _, rfl⟩ := eG
          subst eH
          have Q10 : Hid _ := Q10
          go_wp2_with fail
          refine Calls.mono Q10.out ?_
          rintro e wG ⟨rfl, hqG⟩
          have h8 : OwnB wG w.heap.size v8 62 (List.replicate 62 77) := F11.out.1.below hqG
          have h9 : OwnB wG w.heap.size v9 (N + 2) (List.replicate (N + 2) 78) := F11.out.2.2.2.1.below hqG
          have HB : Hid (Below w.heap.size w wG) := F11.out.2.2.2.2.trans (hqG.mono F11.out.2.2.2.2.size)
          clear Q10 hqG F11
          obtain ⟨g8, c8, rfl, _, _⟩ := own_form h8 (by omega)
          obtain ⟨g9, c9, rfl, _, _⟩ := own_form h9 (by omega)
          have H8 : Hid _ := h8
          have H9 : Hid _ := h9
          clear h8 h9
          obtain ⟨M, hM⟩ : ∃ M, M = N + 2 := ⟨_, rfl⟩
          rw [← hM] at H9 ⊢
          have hM7 : M ≤ 70002 := by omega
          clear hM
          go_wp2
          go_loop [16] (fun ix => ∃ k : Nat, k ≤ 62 ∧ ix = .int .i64 k) (fun ix => 62 - (intOf ix).toNat)
          case atStart => exact ⟨0, Nat.zero_le _, rfl⟩
          case round =>
            obtain ⟨k, hk, rfl⟩ := hrel
            by_cases hlt : k < 62
            · have cc := rep_cell H8.out k hlt
              go_wp2
              go_round
              case rel => exact ⟨k + 1, by omega, by go_num⟩
              case measure => simp [intOf]; omega
            · have hlt' : ¬ ((k : Int) < 62) := by omega
              clear hlt
              go_wp2
              go_loop [17] (fun ix => ∃ k : Nat, k ≤ M ∧ ix = .int .i64 k) (fun ix => M - (intOf ix).toNat)
              case atStart => exact ⟨0, Nat.zero_le _, rfl⟩
              case round =>
                obtain ⟨j, hj, rfl⟩ := hrel
                by_cases hlt : j < M
                · have cc := rep_cell H9.out j hlt
                  go_wp2
                  go_round
                  case rel => exact ⟨j + 1, by omega, by go_num⟩
                  case measure => simp [intOf]; omega
                · have hlt' : ¬ ((j : Int) < (M : Int)) := by omega
                  clear hlt
                  go_wp2
                  go_ret
                  exact ⟨rfl, HB.out⟩
theorem walk (a : Option Addr) (n c : Nat) (zs : List Int) (x : Nat → Nat) (w : World) (h : IsRow .u8 w a n c zs) (hx : ∀ i, x i < 256) :
    Calls Try.prog 3 #[.slice a n c, .agg (macCells x)] w fun e w' => e = .returned (.bool true) ∧ Below w.heap.size w w' := by
  obtain ⟨l, hl, hs, h1, h2, h256⟩ := h.bytes
  by_cases hb : n ≤ 70000
  · have e : min n 70000 = n := by omega
    exact walk1 a n c n l x w hl hx e.symm (fun w' hb' => laid_short a n c l w' hl (hs.old hb') hb)
  · have e : min n 70000 = 70000 := by omega
    exact walk1 a n c 70000 l x w hl hx e.symm (fun w' hb' => laid_long a n c l w' hl (hs.old hb') h1 h2 (by omega))
end Go.Proofs.Ytdglaigelpghdaa.linkPads
