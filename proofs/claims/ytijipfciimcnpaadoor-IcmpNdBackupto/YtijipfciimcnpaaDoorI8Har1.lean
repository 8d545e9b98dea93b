/-
  The statements' own same, copied, laid, echo; the document's Same, Check, six.
-/
import Derived.Test.YtijipfciimcnpaaDoorI8Ser
import Derived.Deep.QuietTactic
namespace Go.Proofs.YtijipfciimcnpaaDoor
open Go.RowKit
open I8 (M8)

theorem take_same (l m : List Nat) (k : Nat) (h1 : k < l.length) (h2 : k < m.length) (he : l.take k = m.take k) (hk : l.getD k 0 = m.getD k 0) : Hid (l.take (k + 1) = m.take (k + 1)) := by
  show _ = _
  rw [List.take_succ_eq_append_getElem h1, List.take_succ_eq_append_getElem h2, he]
  simp [List.getD, h1, h2] at hk
  rw [hk]

set_option maxHeartbeats 400000 in
theorem same8_any (a b : Option Addr) (n1 n2 ca cb : Nat) (l m : List Nat) (w : World) (hn1 : l.length = n1) (hn2 : m.length = n2) (hl : Seg .u8 w a (toI l)) (hm : Seg .u8 w b (toI m)) (hl2 : n1 ≤ 9223372036854775807) :
    Calls Tryd.prog 25 #[.slice a n1 ca, .slice b n2 cb] w fun e w' => e = .returned (.bool (decide (l = m))) ∧ Below w.heap.size w w' := by
  subst hn1 hn2
  by_cases hlen : l.length = m.length
  · have h1 : ((l.length : Int) != (m.length : Int)) = false := by simp; omega
    have HLEN : Hid (l.length = m.length) := hlen
    obtain ⟨n, hn⟩ : ∃ n, n = l.length := ⟨_, rfl⟩
    have HN : Hid (l.length = n ∧ m.length = n) := ⟨hn.symm, by omega⟩
    have e2 : m.length = n := by omega
    rw [e2, ← hn]
    rw [← hn] at hl2
    clear h1 hlen hn e2
    have h1 : ((n : Int) != (n : Int)) = false := by simp
    go_enter Tryd.func25, Tryd.ntmps25
    go_wp2
    go_loopw [5] (fun ix wr => ∃ k : Nat, k ≤ n ∧ ix = .int .i64 k ∧ Hid (l.take k = m.take k) ∧ Below w.heap.size w wr) (fun ix _ => n - (intOf ix).toNat)
    case atStart => exact ⟨0, Nat.zero_le _, rfl, by show _ = _; simp, Below.refl _ _⟩
    case round =>
      obtain ⟨k, hk, rfl, HE, hbel⟩ := hrel
      by_cases hlt : k < n
      · obtain ⟨lb, loff, rfl, hlc⟩ := seg_at (hl.old hbel) k (by rw [HN.out.1]; exact hlt)
        obtain ⟨mb, moff, rfl, hmc⟩ := seg_at (hm.old hbel) k (by rw [HN.out.2]; exact hlt)
        have c1 := hlc k (by rw [HN.out.1]; exact hlt)
        have c2 := hmc k (by rw [HN.out.2]; exact hlt)
        obtain ⟨x, hx⟩ : ∃ x, x = l.getD k 0 := ⟨_, rfl⟩
        obtain ⟨y, hy⟩ : ∃ y, y = m.getD k 0 := ⟨_, rfl⟩
        rw [← hx] at c1
        rw [← hy] at c2
        have HX : Hid (x = l.getD k 0) := hx
        have HY : Hid (y = m.getD k 0) := hy
        clear hlc hmc hx hy
        by_cases hxy : x = y
        · subst hxy
          have hq : ((x : Int) != (x : Int)) = false := by simp
          go_wp2
          go_region
          go_wp2
          go_roundw
          case rel => exact ⟨k + 1, by omega, by go_num, take_same l m k (by rw [HN.out.1]; exact hlt) (by rw [HN.out.2]; exact hlt) HE.out (by rw [← HX.out, ← HY.out]), hbel.drew⟩
          case measure => simp [intOf]; omega
        · have hq : ((x : Int) != (y : Int)) = true := by simp; omega
          go_wp2
          go_region
          go_wp2
          go_ret
          have : l ≠ m := fun e => hxy (by rw [HX.out, HY.out, e])
          exact ⟨by simp [this], hbel.drew⟩
      · obtain rfl : k = n := by omega
        have : l = m := by
          have h := HE.out
          rw [List.take_of_length_le (by rw [HN.out.1]; omega), List.take_of_length_le (by rw [HN.out.2]; omega)] at h
          exact h
        have HLM : Hid (l = m) := this
        clear this
        go_wp2
        go_ret
        exact ⟨by simp [HLM.out], hbel⟩
  · have h1 : ((l.length : Int) != (m.length : Int)) = true := by rw [bne_iff_ne]; omega
    have hne : Hid (l ≠ m) := fun e => hlen (by rw [e])
    go_enter Tryd.func25, Tryd.ntmps25
    go_wp2
    go_ret
    exact ⟨by simp [hne.out], Below.refl _ _⟩

set_option maxHeartbeats 800000 in
set_option maxRecDepth 100000 in
theorem copied8_any (a : Option Addr) (n cap : Nat) (l : List Nat) (w : World) (hn : l.length = n) (hs : Seg .u8 w a (toI l)) (hm : n ≤ 140737488355328) :
    Calls Tryd.prog 23 #[.slice a n cap] w fun e w' => ∃ v, e = .returned v ∧ w'.ownsRow w.heap.size 5 1 v n ((toI l).map (Value.int .u8)) ∧ Below w.heap.size w w' := by
  obtain ⟨i0, hi, hz0, hz1, hz2⟩ := info_parts Tryd.infoByte
  have HN : Hid (l.length = n) := hn
  have HS : Hid (Seg .u8 w a (toI l)) := hs
  clear hn hs
  go_enter Tryd.func23, Tryd.ntmps23
  go_wp2_with (first | (at_builtin; refine append_split_seg rfl (.tmp 4) (.tmp 5) 29 rfl w.heap.size 5 i0 (.int .u8 0) 1 Tryd.underlying29 hi hz0 hz1 hz2 rfl (.slice none 0 0) 0 [] rfl (World.ownsRow_nil _ _ _ _) .u8 a n cap (toI l) rfl (by rw [toI_len]; exact HN.out) HS.out (by unfold maxLen; omega) (by omega) (Nat.le_refl _) ?_))
  intro v' w' ho hq hg
  have hb : Below w.heap.size w w' := (Below.refl _ _).grown hg (Nat.le_refl _) (by intro k hk; simp [Value.ownBlock] at hk)
  have HO : Hid (w'.ownsRow w.heap.size 5 1 v' n ((toI l).map (Value.int .u8))) := by
    have h1 : w'.ownsRow w.heap.size 5 1 v' n ((toI l).map (Value.int .u8)) := by simpa using ho
    exact h1
  clear ho hq hg
  go_wp2
  go_ret
  exact ⟨_, rfl, HO.out, hb⟩
theorem seg_newz (w : World) (zs : List Int) (t : TypeId) : Seg .u8 (w.alloc (.cells (zs.map (Value.int .u8)).toArray t)) (some ⟨w.heap.size, 0, none⟩) zs := by
  refine .inr ⟨w.heap.size, 0, rfl, fun i hi => ?_⟩
  rw [World.cell?_alloc_at _ _ _ _ rfl]
  simp [hi, List.getD]
theorem owns_some {w : World} {B : Nat} {e : TypeId} {s m : Nat} {v : Value} {xs : List Value} (h : w.ownsRow B e s v m xs) (hm : 0 < m) : ∃ g c, v = .slice (some ⟨g, 0, none⟩) m c := by
  rcases h.2 with ⟨_, h0⟩ | ⟨g, cap, cur, e1, _⟩
  · omega
  · exact ⟨g, cap, e1⟩
def lMarks : List Nat := [201, 202, 203, 204, 205]
set_option maxHeartbeats 1600000 in
set_option maxRecDepth 100000 in
theorem laid8_at (a : Option Addr) (n N cap : Nat) (l : List Nat) (w : World) (hN : l.length = N) (hm : N = if 66000 < n then 66000 else n) (hs : Seg .u8 w a (toI l)) (hc : n ≤ cap) :
    Calls Tryd.prog 22 #[.slice a n cap] w fun e w' => ∃ g c, e = .returned (.tuple #[.slice (some ⟨g, 0, none⟩) N c, .slice (some ⟨g, 0, none⟩) (N + 5) c]) ∧ OwnB w' w.heap.size (.slice (some ⟨g, 0, none⟩) (N + 5) c) (N + 5) (l ++ lMarks) ∧ Below w.heap.size w w' := by
  obtain ⟨i0, hi, hz0, hz1, hz2⟩ := info_parts Tryd.infoByte
  have HN : Hid (l.length = N) := hN
  have HS : Hid (Seg .u8 w a (toI l)) := hs
  have hN6 : N ≤ 66000 := by rw [hm]; split <;> omega
  clear hN hs
  by_cases hb : 66000 < n
  · rw [if_pos hb] at hm
    subst hm
    have hb' : (66000 : Int) < (n : Int) := by omega
    have hb2 : 66000 ≤ cap := by omega
    have hb3 : (66000 : Int) ≤ (cap : Int) := by omega
    go_enter Tryd.func22, Tryd.ntmps22
    go_wp2_with (first | (at_builtin; refine append_split_seg rfl (.tmp 10) (.tmp 11) 29 rfl w.heap.size 5 i0 (.int .u8 0) 1 Tryd.underlying29 hi hz0 hz1 hz2 rfl (.slice none 0 0) 0 [] rfl (World.ownsRow_nil _ _ _ _) .u8 a 66000 cap (toI l) rfl (by rw [toI_len]; exact HN.out) HS.out (by unfold maxLen; omega) (by omega) (Nat.le_refl _) ?_))
    intro v1 w1 ho1 hq1 hg1
    have hb1 : Below w.heap.size w w1 := (Below.refl _ _).grown hg1 (Nat.le_refl _) (by intro k hk; simp [Value.ownBlock] at hk)
    have HO1 : Hid (OwnB w1 w.heap.size v1 66000 l) := by
      have h1 : w1.ownsRow w.heap.size 5 1 v1 66000 ((toI l).map (Value.int .u8)) := by simpa using ho1
      exact h1
    have hsz : w.heap.size ≤ w1.heap.size := hb1.size
    have HB1 : Hid (Below w.heap.size w w1) := hb1
    clear ho1 hq1 hg1 hb1
    go_wp2_with (first | (at_builtin; refine append_split_seg rfl (.tmp 13) (.tmp 14) 29 rfl w.heap.size 5 i0 (.int .u8 0) 1 Tryd.underlying29 hi hz0 hz1 hz2 rfl v1 66000 _ rfl (HO1.out.alloc _) .u8 (some ⟨w1.heap.size, 0, none⟩) 5 5 [201, 202, 203, 204, 205] rfl rfl (seg_newz w1 [201, 202, 203, 204, 205] _) (by unfold maxLen; omega) (by omega) (by simp; omega) ?_))
    intro v2 w2 ho hq hg
    have bA : Below w.heap.size w (w1.alloc (.cells #[.int .u8 201, .int .u8 202, .int .u8 203, .int .u8 204, .int .u8 205] 5)) := HB1.out.alloc HB1.out.size _
    have hb3 : Below w.heap.size w w2 := bA.grown hg (by simp; omega) (fun q hq => (HO1.out.lt q hq).1)
    obtain ⟨g, c, hv2, hgc, _⟩ := own_block ho (by omega)
    subst hv2
    have HO2 : Hid (OwnB w2 w.heap.size (.slice (some ⟨g, 0, none⟩) (66000 + 5) c) (66000 + 5) (l ++ lMarks)) := by
      have e : (toI (l ++ lMarks)).map (Value.int .u8) = (toI l).map (Value.int .u8) ++ ([201, 202, 203, 204, 205] : List Int).map (Value.int .u8) := by simp [toI, lMarks]
      show w2.ownsRow _ _ _ _ _ _
      rw [e]
      exact ho
    have z1 : (66000 : Int) ≤ (c : Int) := by omega
    have z2 : (0 : Int) ≤ (66000 : Int) := by omega
    clear ho hq hg bA
    go_wp2
    go_ret2
    exact ⟨g, c, rfl, HO2.out, hb3⟩
  · rw [if_neg hb] at hm
    subst hm
    have hb' : ¬ (66000 : Int) < (N : Int) := by omega
    go_enter Tryd.func22, Tryd.ntmps22
    go_wp2_with (first | (at_builtin; refine append_split_seg rfl (.tmp 10) (.tmp 11) 29 rfl w.heap.size 5 i0 (.int .u8 0) 1 Tryd.underlying29 hi hz0 hz1 hz2 rfl (.slice none 0 0) 0 [] rfl (World.ownsRow_nil _ _ _ _) .u8 a N cap (toI l) rfl (by rw [toI_len]; exact HN.out) HS.out (by unfold maxLen; omega) (by omega) (Nat.le_refl _) ?_))
    intro v1 w1 ho1 hq1 hg1
    have hb1 : Below w.heap.size w w1 := (Below.refl _ _).grown hg1 (Nat.le_refl _) (by intro k hk; simp [Value.ownBlock] at hk)
    have HO1 : Hid (OwnB w1 w.heap.size v1 N l) := by
      have h1 : w1.ownsRow w.heap.size 5 1 v1 N ((toI l).map (Value.int .u8)) := by simpa using ho1
      exact h1
    have hsz : w.heap.size ≤ w1.heap.size := hb1.size
    have HB1 : Hid (Below w.heap.size w w1) := hb1
    clear ho1 hq1 hg1 hb1
    go_wp2_with (first | (at_builtin; refine append_split_seg rfl (.tmp 13) (.tmp 14) 29 rfl w.heap.size 5 i0 (.int .u8 0) 1 Tryd.underlying29 hi hz0 hz1 hz2 rfl v1 N _ rfl (HO1.out.alloc _) .u8 (some ⟨w1.heap.size, 0, none⟩) 5 5 [201, 202, 203, 204, 205] rfl rfl (seg_newz w1 [201, 202, 203, 204, 205] _) (by unfold maxLen; omega) (by omega) (by simp; omega) ?_))
    intro v2 w2 ho hq hg
    have bA : Below w.heap.size w (w1.alloc (.cells #[.int .u8 201, .int .u8 202, .int .u8 203, .int .u8 204, .int .u8 205] 5)) := HB1.out.alloc HB1.out.size _
    have hb3 : Below w.heap.size w w2 := bA.grown hg (by simp; omega) (fun q hq => (HO1.out.lt q hq).1)
    obtain ⟨g, c, hv2, hgc, _⟩ := own_block ho (by omega)
    subst hv2
    have HO2 : Hid (OwnB w2 w.heap.size (.slice (some ⟨g, 0, none⟩) (N + 5) c) (N + 5) (l ++ lMarks)) := by
      have e : (toI (l ++ lMarks)).map (Value.int .u8) = (toI l).map (Value.int .u8) ++ ([201, 202, 203, 204, 205] : List Int).map (Value.int .u8) := by simp [toI, lMarks]
      show w2.ownsRow _ _ _ _ _ _
      rw [e]
      exact ho
    have z1 : (N : Int) ≤ (c : Int) := by omega
    have z2 : (0 : Int) ≤ (N : Int) := by omega
    clear ho hq hg bA
    go_wp2
    go_ret2
    exact ⟨g, c, rfl, HO2.out, hb3⟩
def cut6 (l : List Nat) : List Nat := l.take 66000
theorem laid8_any (a : Option Addr) (n cap : Nat) (l : List Nat) (w : World) (hn : l.length = n) (hs : Seg .u8 w a (toI l)) (hc : n ≤ cap) :
    Calls Tryd.prog 22 #[.slice a n cap] w fun e w' => ∃ g c N, e = .returned (.tuple #[.slice (some ⟨g, 0, none⟩) N c, .slice (some ⟨g, 0, none⟩) (N + 5) c]) ∧ N = (cut6 l).length ∧ N ≤ 66000 ∧ OwnB w' w.heap.size (.slice (some ⟨g, 0, none⟩) (N + 5) c) (N + 5) (cut6 l ++ lMarks) ∧ Below w.heap.size w w' := by
  have e : (cut6 l).length = if 66000 < n then 66000 else n := by
    unfold cut6
    rw [List.length_take, hn]
    split <;> omega
  refine (laid8_at a n (cut6 l).length cap (cut6 l) w rfl e ?_ hc).mono ?_
  · unfold cut6
    rw [← toI_take]
    have : (toI l).take 66000 = (toI l).take (min 66000 (toI l).length) := by rw [List.take_eq_take_iff]; omega
    rw [this]
    exact hs.part0 _ (Nat.min_le_right _ _)
  · rintro e' w' ⟨g, c, rfl, ho, hb⟩
    refine ⟨g, c, _, rfl, rfl, ?_, ho, hb⟩
    rw [e]; split <;> omega
def mEcho : M8 := ⟨4, 8, 0, 65537, []⟩
theorem echo_any (w : World) : Calls Tryd.prog 65 #[] w fun e w' => e = .returned (.agg (mC mEcho none 0 0)) ∧ Below w.heap.size w w' := by
  go_enter Tryd.func65, Tryd.ntmps65
  go_wp2_with (first | (refine wpList_alloc_m8 rfl rfl ?_) | (refine wpList_store_m8 (.tmp 0) (.tmp 1) rfl rfl w.heap.size m8z mEcho none none 0 0 0 0 rfl rfl (mAt_new _ _ _ _ _) rfl ?_))
  intro wE hRE kE
  have HRE : Hid (MAt wE w.heap.size mEcho none 0 0) := hRE
  have HFE : Hid (Below w.heap.size w wE) := ((Below.refl _ _).alloc (Nat.le_refl _) _).trans (kE.below (fun q e => by have e' : q = w.heap.size := e; omega) (by simp))
  clear hRE kE
  go_wp2
  (try simp only [Exit.inBlock, Exit.then])
  refine bodyPost_ret (v := .agg (mC mEcho none 0 0)) ?_ rfl ?_
  · exact results_cell_row rfl _ _ w.heap.size 31 _ _ _ rfl HRE.out Tryd.underlying31 rfl Tryd.sizeM8
  exact ⟨rfl, HFE.out⟩
set_option maxHeartbeats 800000 in
set_option maxRecDepth 100000 in
theorem mSame_true (m : M8) (a b : Option Addr) (n ca cb : Nat) (w : World) (hn : m.d.length = n) (ha : Seg .u8 w a (toI m.d)) (hb : Seg .u8 w b (toI m.d)) (hm : n ≤ 9223372036854775807) :
    Calls Tryd.prog 19 #[.agg (mC m a n ca), .agg (mC m b n cb)] w fun e w' => e = .returned (.bool true) ∧ Below w.heap.size w w' := by
  obtain ⟨v, t, c, r, d⟩ := m
  simp only at hn ha hb
  have HN : Hid (d.length = n) := hn
  have r1 := mAt_new w ⟨v, t, c, r, d⟩ a n ca
  have r2 := mAt_new (w.alloc (.cells (mC ⟨v, t, c, r, d⟩ a n ca) 31)) ⟨v, t, c, r, d⟩ b n cb
  rw [World.size_alloc] at r2
  have r1' := r1.below ((Below.refl _ _).alloc (Nat.le_refl _) (.cells (mC ⟨v, t, c, r, d⟩ b n cb) 31))
  have bel : Below w.heap.size w ((w.alloc (.cells (mC ⟨v, t, c, r, d⟩ a n ca) 31)).alloc (.cells (mC ⟨v, t, c, r, d⟩ b n cb) 31)) := ((Below.refl _ _).alloc (Nat.le_refl _) _).alloc (by simp) _
  obtain ⟨A, hA⟩ : ∃ A, A = mC ⟨v, t, c, r, d⟩ a n ca := ⟨_, rfl⟩
  obtain ⟨B, hB⟩ : ∃ B, B = mC ⟨v, t, c, r, d⟩ b n cb := ⟨_, rfl⟩
  rw [← hA] at r1' r2 bel ⊢
  rw [← hB] at r1' r2 bel ⊢
  obtain ⟨W, hW⟩ : ∃ W, W = (w.alloc (.cells A 31)).alloc (.cells B 31) := ⟨_, rfl⟩
  rw [← hW] at r1' r2 bel
  obtain ⟨O, hO⟩ : ∃ O, O = w.heap.size := ⟨_, rfl⟩
  rw [← hO] at r1' r2
  have HW : Hid ((w.alloc (.cells A 31)).alloc (.cells B 31) = W) := hW.symm
  have HO : Hid (w.heap.size = O) := hO.symm
  have HA : Hid (∀ X, Below w.heap.size w X → Seg .u8 X a (toI d)) := fun X hX => ha.old hX
  have HB : Hid (∀ X, Below w.heap.size w X → Seg .u8 X b (toI d)) := fun X hX => hb.old hX
  have HR1 : Hid (MAt W O ⟨v, t, c, r, d⟩ a n ca) := r1'
  have HR2 : Hid (MAt W (O + 1) ⟨v, t, c, r, d⟩ b n cb) := r2
  have e1 : (v != v) = false := by simp
  have e2 : (t != t) = false := by simp
  have e3 : (c != c) = false := by simp
  have e4 : (r != r) = false := by simp
  have e5 : ((n : Int) != (n : Int)) = false := by simp
  have x0 := r1'.c0
  have x1 := r1'.c1
  have x2 := r1'.c2
  have x3 := r1'.c3
  have x4 := r1'.c4
  have y0 := r2.c0
  have y1 := r2.c1
  have y2 := r2.c2
  have y3 := r2.c3
  have y4 := r2.c4
  clear hA hB hW hO r1 r1' r2 ha hb hn
  go_enter Tryd.func19, Tryd.ntmps19
  go_upto_region 1 with fail
  rw [HO.out, HW.out]
  clear HW
  go_wp2
  clear x0 x1 x2 x3 x4 y0 y1 y2 y3 y4
  go_loopw [5] (fun ix wr => ∃ k : Nat, k ≤ n ∧ ix = .int .i64 k ∧ MAt wr O ⟨v, t, c, r, d⟩ a n ca ∧ MAt wr (O + 1) ⟨v, t, c, r, d⟩ b n cb ∧ Below w.heap.size w wr) (fun ix _ => n - (intOf ix).toNat)
  case atStart => exact ⟨0, Nat.zero_le _, rfl, HR1.out, HR2.out, bel⟩
  case round =>
    obtain ⟨k, hk, rfl, q1, q2, hbel⟩ := hrel
    have x4 := q1.c4
    have y4 := q2.c4
    have HQ1 : Hid (MAt wr.drew O ⟨v, t, c, r, d⟩ a n ca) := q1
    have HQ2 : Hid (MAt wr.drew (O + 1) ⟨v, t, c, r, d⟩ b n cb) := q2
    clear q1 q2
    by_cases hlt : k < n
    · obtain ⟨lb, loff, rfl, hlc⟩ := seg_at (HA.out wr hbel) k (by rw [HN.out]; exact hlt)
      obtain ⟨mb, moff, rfl, hmc⟩ := seg_at (HB.out wr hbel) k (by rw [HN.out]; exact hlt)
      have c1 := hlc k (by rw [HN.out]; exact hlt)
      have c2 := hmc k (by rw [HN.out]; exact hlt)
      obtain ⟨x, hx⟩ : ∃ x, x = d.getD k 0 := ⟨_, rfl⟩
      rw [← hx] at c1 c2
      clear hlc hmc hx
      have hq : ((x : Int) != (x : Int)) = false := by simp
      go_wp2
      go_region
      go_wp2
      go_roundw
      case rel => exact ⟨k + 1, by omega, by go_num, HQ1.out, HQ2.out, hbel.drew⟩
      case measure => simp [intOf]; omega
    · obtain rfl : k = n := by omega
      go_wp2
      go_ret
      exact ⟨rfl, hbel⟩
theorem okF_false {m : M8} (h : I8.okF m = false) : m.t < 0 ∨ 255 < m.t ∨ m.c < 0 ∨ 255 < m.c ∨ m.r < 0 ∨ 4294967295 < m.r := by
  unfold I8.okF I8.inB at h
  simp at h
  omega
set_option maxHeartbeats 1600000 in
theorem rCheck_any (m : M8) (da : Option Addr) (n c : Nat) (w : World) (hd : m.d.length = n) :
    Calls Tryd.prog 32 #[.agg (mC m da n c)] w fun e w' => e = .returned (.int .i64 ((I8.chk m : Nat) : Int)) ∧ Below w.heap.size w w' := by
  have bel : Below w.heap.size w (w.alloc (.cells (mC m da n c) 31)) := (Below.refl _ _).alloc (Nat.le_refl _) _
  have HD : Hid (m.d.length = n) := hd
  clear hd
  obtain ⟨v, t, cc, r, d⟩ := m
  unfold mC at bel ⊢
  simp only at bel HD ⊢
  by_cases h4 : v = 4 ∨ v = 6
  case neg =>
    have e4 : (v != 4) = true := by rw [bne_iff_ne]; omega
    have e6 : (v != 6) = true := by rw [bne_iff_ne]; omega
    have HE : Hid (I8.chk ⟨v, t, cc, r, d⟩ = 1) := by
      show _ = _
      unfold I8.chk I8.isV
      rw [decide_eq_false h4]
      rfl
    clear h4
    go_enter Tryd.func32, Tryd.ntmps32
    go_wp2
    go_ret
    exact ⟨by rw [HE.out]; rfl, bel⟩
  have HV : Hid (I8.isV v = true) := by show _ = _; unfold I8.isV; exact decide_eq_true h4
  have HOK : Hid (∀ b, I8.okF ⟨v, t, cc, r, d⟩ = b → I8.chk ⟨v, t, cc, r, d⟩ = if b then (if 65515 < 8 + n then 2 else 0) else 82) := by
    intro b hb
    unfold I8.chk
    rw [HV.out, hb, HD.out]
    rfl
  have HV2 : Hid ((v != 4) = false ∨ ((v != 4) = true ∧ (v != 6) = false)) := by
    rcases h4 with h | h
    · left; rw [h]; rfl
    · right; rw [h]; exact ⟨rfl, rfl⟩
  have key : ∀ (P : World → Prop), True := fun _ => trivial
  clear h4 key
  by_cases t0 : t < 0
  · have HE : Hid (I8.chk ⟨v, t, cc, r, d⟩ = 82) := HOK.out false (by unfold I8.okF I8.inB; simp; omega)
    rcases HV2.out with v4 | ⟨v4, v6⟩
    · clear HV2 HOK HV
      go_enter Tryd.func32, Tryd.ntmps32
      go_wp2
      go_ret
      exact ⟨by rw [HE.out]; rfl, bel⟩
    · clear HV2 HOK HV
      go_enter Tryd.func32, Tryd.ntmps32
      go_wp2
      go_ret
      exact ⟨by rw [HE.out]; rfl, bel⟩
  by_cases t1 : 255 < t
  · have HE : Hid (I8.chk ⟨v, t, cc, r, d⟩ = 82) := HOK.out false (by unfold I8.okF I8.inB; simp; omega)
    rcases HV2.out with v4 | ⟨v4, v6⟩
    · clear HV2 HOK HV
      go_enter Tryd.func32, Tryd.ntmps32
      go_wp2
      go_ret
      exact ⟨by rw [HE.out]; rfl, bel⟩
    · clear HV2 HOK HV
      go_enter Tryd.func32, Tryd.ntmps32
      go_wp2
      go_ret
      exact ⟨by rw [HE.out]; rfl, bel⟩
  by_cases c0 : cc < 0
  · have HE : Hid (I8.chk ⟨v, t, cc, r, d⟩ = 82) := HOK.out false (by unfold I8.okF I8.inB; simp; omega)
    rcases HV2.out with v4 | ⟨v4, v6⟩
    · clear HV2 HOK HV
      go_enter Tryd.func32, Tryd.ntmps32
      go_wp2
      go_ret
      exact ⟨by rw [HE.out]; rfl, bel⟩
    · clear HV2 HOK HV
      go_enter Tryd.func32, Tryd.ntmps32
      go_wp2
      go_ret
      exact ⟨by rw [HE.out]; rfl, bel⟩
  by_cases c1 : 255 < cc
  · have HE : Hid (I8.chk ⟨v, t, cc, r, d⟩ = 82) := HOK.out false (by unfold I8.okF I8.inB; simp; omega)
    rcases HV2.out with v4 | ⟨v4, v6⟩
    · clear HV2 HOK HV
      go_enter Tryd.func32, Tryd.ntmps32
      go_wp2
      go_ret
      exact ⟨by rw [HE.out]; rfl, bel⟩
    · clear HV2 HOK HV
      go_enter Tryd.func32, Tryd.ntmps32
      go_wp2
      go_ret
      exact ⟨by rw [HE.out]; rfl, bel⟩
  by_cases r0 : r < 0
  · have HE : Hid (I8.chk ⟨v, t, cc, r, d⟩ = 82) := HOK.out false (by unfold I8.okF I8.inB; simp; omega)
    rcases HV2.out with v4 | ⟨v4, v6⟩
    · clear HV2 HOK HV
      go_enter Tryd.func32, Tryd.ntmps32
      go_wp2
      go_ret
      exact ⟨by rw [HE.out]; rfl, bel⟩
    · clear HV2 HOK HV
      go_enter Tryd.func32, Tryd.ntmps32
      go_wp2
      go_ret
      exact ⟨by rw [HE.out]; rfl, bel⟩
  by_cases r1 : 4294967295 < r
  · have HE : Hid (I8.chk ⟨v, t, cc, r, d⟩ = 82) := HOK.out false (by unfold I8.okF I8.inB; simp; omega)
    rcases HV2.out with v4 | ⟨v4, v6⟩
    · clear HV2 HOK HV
      go_enter Tryd.func32, Tryd.ntmps32
      go_wp2
      go_ret
      exact ⟨by rw [HE.out]; rfl, bel⟩
    · clear HV2 HOK HV
      go_enter Tryd.func32, Tryd.ntmps32
      go_wp2
      go_ret
      exact ⟨by rw [HE.out]; rfl, bel⟩
  have HT : Hid (I8.okF ⟨v, t, cc, r, d⟩ = true) := by show _ = _; unfold I8.okF I8.inB; simp; omega
  by_cases n0 : 65507 < n
  · have HE : Hid (I8.chk ⟨v, t, cc, r, d⟩ = 2) := by
      have := HOK.out true HT.out
      rw [if_pos rfl, if_pos (by omega)] at this
      exact this
    have n0' : (65507 : Int) < (n : Int) := by omega
    rcases HV2.out with v4 | ⟨v4, v6⟩
    · clear HV2 HOK HV
      go_enter Tryd.func32, Tryd.ntmps32
      go_wp2
      go_ret
      exact ⟨by rw [HE.out]; rfl, bel⟩
    · clear HV2 HOK HV
      go_enter Tryd.func32, Tryd.ntmps32
      go_wp2
      go_ret
      exact ⟨by rw [HE.out]; rfl, bel⟩
  have HE : Hid (I8.chk ⟨v, t, cc, r, d⟩ = 0) := by
    have := HOK.out true HT.out
    rw [if_pos rfl, if_neg (by omega)] at this
    exact this
  have n0' : ¬ (65507 : Int) < (n : Int) := by omega
  rcases HV2.out with v4 | ⟨v4, v6⟩
  · clear HV2 HOK HV
    go_enter Tryd.func32, Tryd.ntmps32
    go_wp2
    go_ret
    exact ⟨by rw [HE.out]; rfl, bel⟩
  · clear HV2 HOK HV
    go_enter Tryd.func32, Tryd.ntmps32
    go_wp2
    go_ret
    exact ⟨by rw [HE.out]; rfl, bel⟩
theorem six8_any (V U : Int) (x y : Nat → Nat) (w : World) :
    Calls Tryd.prog 70 #[.agg (ipCells V x), .agg (ipCells U y)] w fun e w' => e = .returned (.bool (six6 V U)) ∧ Below w.heap.size w w' := by
  have hx1 := boxed_new w V x 24
  have hy1 := boxed_new (w.alloc (.cells (ipCells V x) 24)) U y 24
  have hb1 : Below w.heap.size w ((w.alloc (.cells (ipCells V x) 24)).alloc (.cells (ipCells U y) 24)) := ((Below.refl _ _).alloc (Nat.le_refl _) _).alloc (by simp) _
  have hx2 := hx1.old ((Below.refl _ _).alloc (Nat.le_refl _) (.cells (ipCells U y) 24))
  clear hx1
  rw [World.size_alloc] at hy1
  obtain ⟨A, hA⟩ : ∃ A, A = ipCells V x := ⟨_, rfl⟩
  obtain ⟨C, hC⟩ : ∃ C, C = ipCells U y := ⟨_, rfl⟩
  rw [← hA] at hx2 hy1 hb1 ⊢
  rw [← hC] at hx2 hy1 hb1 ⊢
  clear hA hC
  have hvx := hx2.ver
  have hvy := hy1.ver
  clear hx2 hy1
  by_cases h1 : V = 6
  · by_cases h2 : U = 6
    · have e1 : (V == 6) = true := by simp [h1]
      have e2 : (U == 6) = true := by simp [h2]
      have HS : Hid (six6 V U = true) := by show _ = _; simp [six6, h1, h2]
      clear h1 h2
      go_enter Tryd.func70, Tryd.ntmps70
      go_wp2
      go_ret
      exact ⟨by rw [HS.out]; rfl, hb1⟩
    · have e1 : (V == 6) = true := by simp [h1]
      have e2 : (U == 6) = false := by simpa using h2
      have HS : Hid (six6 V U = false) := by show _ = _; simp [six6, h2]
      clear h1 h2
      go_enter Tryd.func70, Tryd.ntmps70
      go_wp2
      go_ret
      exact ⟨by rw [HS.out]; rfl, hb1⟩
  · have e1 : (V == 6) = false := by simpa using h1
    have HS : Hid (six6 V U = false) := by show _ = _; simp [six6, h1]
    clear h1
    go_enter Tryd.func70, Tryd.ntmps70
    go_wp2
    go_ret
    exact ⟨by rw [HS.out]; rfl, hb1⟩
end Go.Proofs.YtijipfciimcnpaaDoor
