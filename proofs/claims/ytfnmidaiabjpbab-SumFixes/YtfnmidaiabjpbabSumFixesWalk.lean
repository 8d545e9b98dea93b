/-
  The walk of SumFixes: it answers true, whatever it is handed, and writes nothing that was there.
-/
import Derived.Test.YtfnmidaiabjpbabLaid2
import Derived.Test.YtfnmidaiabjpbabSRef2
import Derived.Test.YtfnmidaiabjpbabSum5q
import Derived.Test.YtfnmidaiabjpbabMix
import Derived.Deep.DeepCutAuto
namespace Go.Proofs.Ytfnmidaiabjpbab.sumFixes
open Go.RowKit

theorem seg_set {k : IntKind} {w : World} {a : Option Addr} {zs : List Int} {D i : Nat} {u : Value} (h : Seg k w a zs) (hne : ∀ b off sp, a = some ⟨b, off, sp⟩ → b ≠ D) : Seg k (w.setCell ⟨D, i, none⟩ u) a zs := by
  rcases h with h | ⟨b, off, rfl, hc⟩
  · exact .inl h
  · refine .inr ⟨b, off, rfl, fun j hj => ?_⟩
    have := hne b off none rfl
    rw [World.cell?_setCell_other _ _ _ _ (by simp only [ne_eq, Addr.mk.injEq, not_and]; intro h; exact absurd h.symm this)]
    exact hc j hj
theorem part_set {w : World} {p : Part} {D i : Nat} {u : Value} (h : p.ok w) (hne : ∀ b off sp, p.a = some ⟨b, off, sp⟩ → b ≠ D) : p.ok (w.setCell ⟨D, i, none⟩ u) := ⟨seg_set h.1 hne, h.2⟩
theorem fix_ex (w : World) : Calls Try.prog 17 #[.int .i64 56623, .int .i64 21845, .int .i64 12933] w fun e w' => e = .returned (.tuple #[.int .i64 0, .int .i64 0]) ∧ w' = w := by
  have := fix_any 56623 21845 12933 w
  have e1 : fixN 56623 21845 12933 = 0 := by decide
  have e2 : fixE 56623 21845 12933 = 0 := by decide
  rw [e1, e2] at this
  exact this

set_option maxHeartbeats 1600000 in
set_option maxRecDepth 100000 in
theorem walk (a0 a1 a2 : Int) (a3 : Option Addr) (len3 cap3 : Nat) (z3 : List Int) (a4 : Option Addr) (len4 cap4 : Nat) (z4 : List Int) (w : World) (_w0 : (Lit.int .i64 a0).wf = true) (_w1 : (Lit.int .i64 a1).wf = true) (_w2 : (Lit.int .i64 a2).wf = true) (w3 : IsRow .u8 w a3 len3 cap3 z3) (w4 : IsRow .u8 w a4 len4 cap4 z4) :
    Calls Try.prog 4 #[.int .i64 a0, .int .i64 a1, .int .i64 a2, .slice a3 len3 cap3, .slice a4 len4 cap4] w fun e w' => e = .returned (.bool true) ∧ Below w.heap.size w w' := by
  obtain ⟨bs, rfl, hb, h1, h2, h256⟩ := w3.bytes
  obtain ⟨cs, rfl, hc, h3, h4, hc256⟩ := w4.bytes
  have hp3 : Part.ok w ⟨a3, cap3, bs⟩ := ⟨hb, h256, h1, h2⟩
  have hp4 : Part.ok w ⟨a4, cap4, cs⟩ := ⟨hc, hc256, h3, h4⟩
  clear w3 w4 hb hc h256 hc256
  obtain ⟨s, hs⟩ : ∃ s, s = fixN a0 a1 a2 := ⟨_, rfl⟩
  obtain ⟨t, ht⟩ : ∃ t, t = fixE a0 a1 a2 := ⟨_, rfl⟩
  have HF1 : Hid (∀ w, Calls Try.prog 17 #[.int .i64 a0, .int .i64 a1, .int .i64 a2] w fun e w' => e = .returned (.tuple #[.int .i64 s, .int .i64 t]) ∧ w' = w) := by
    rw [hs, ht]; exact fix_any a0 a1 a2
  have HF2 : Hid (∀ w, Calls Try.prog 18 #[.int .i64 a0, .int .i64 a1, .int .i64 a2] w fun e w' => e = .returned (.tuple #[.int .i64 s, .int .i64 t]) ∧ w' = w) := by
    rw [hs, ht]; exact rfix_any a0 a1 a2
  clear hs ht
  have hss : (s != s) = false := by simp
  have htt : (t != t) = false := by simp
  go_enter Try.func4, Try.ntmps4
  go_wp2_with fail
  refine (fix_ex w).mono ?_
  rintro e w1 ⟨rfl, rfl⟩
  go_wp2_with fail
  refine (HF1.out _).mono ?_
  rintro e w1 ⟨rfl, rfl⟩
  go_wp2_with fail
  refine (HF2.out _).mono ?_
  rintro e w1 ⟨rfl, rfl⟩
  go_wp2_with fail
  have hpn := parts_new w1 [⟨a3, cap3, bs⟩, ⟨a4, cap4, cs⟩] 24 (by intro p hp; simp at hp; rcases hp with rfl | rfl; exact hp3; exact hp4)
  refine (laid_any (some ⟨w1.heap.size, 0, none⟩) 2 2 [⟨a3, cap3, bs⟩, ⟨a4, cap4, cs⟩] _ rfl hpn (by omega)).mono ?_
  rintro e w2 ⟨oa, oc, g, m, c, wa, wcc, qs, AL, rfl, hop, hoA, hoW, hPI, hA, hm, hall, hq300, hb2⟩
  have hb02 := below_new hb2
  clear hb2 hpn hp3 hp4
  by_cases hq2 : qs.length < 2
  · go_wp2
    go_ret
    exact ⟨rfl, hb02⟩
  · have hnq : ¬ ((qs.length : Int) < 2) := by omega
    obtain ⟨Q, hQ⟩ : ∃ Q, Q = qs.length := ⟨_, rfl⟩
    have HQ : Hid (qs.length = Q) := hQ.symm
    rw [← hQ] at hop hq2 hq300 ⊢
    rcases hop.2 with ⟨hv, h0⟩ | ⟨og, ocap, ocur, hv, hogB, _, hqc, hocm, _⟩
    · omega
    simp only [Value.slice.injEq, true_and] at hv
    obtain ⟨rfl, rfl⟩ := hv
    obtain ⟨q0, q1, rest, hqs⟩ : ∃ q0 q1 rest, qs = q0 :: q1 :: rest := by
      match qs, hQ with
      | a :: b :: l, _ => exact ⟨a, b, l, rfl⟩
      | [], h => simp at h; omega
      | [a], h => simp at h; omega
    have hok : ∀ q ∈ qs, q.ok w2 := fun q hq => (hPI q hq).ok hoA hA
    have ok0 : q0.ok w2 := hok q0 (by rw [hqs]; simp)
    have ok1 : q1.ok w2 := hok q1 (by rw [hqs]; simp)
    have cell0 : w2.cell? ⟨og, 0, none⟩ = some q0.val := by rw [hop.cellAt 0 (by omega), hqs]; rfl
    have cell1 : w2.cell? ⟨og, 1, none⟩ = some q1.val := by rw [hop.cellAt 1 (by omega), hqs]; rfl
    have hog : og < w2.heap.size := World.block_lt_of_cell? w2 _ cell0
    have hlen01 : q0.l.length + q1.l.length ≤ 131076 := by
      have e : allB qs = q0.l ++ (q1.l ++ allB rest) := by rw [hqs]; simp [allB]
      rw [e] at hall
      simp at hall
      omega
    clear hok hPI hQ hqs hnq
    have hnq : ¬ ((Q : Int) < 2) := by omega
    go_upto_region 11 with fail
    have k1 : (1 : Int) ≤ (Q : Int) := by omega
    have k2 : (2 : Int) ≤ (Q : Int) := by omega
    have k3 : (Q : Int) ≤ (oc : Int) := by omega
    have k4 : (1 : Int) ≤ (oc : Int) := by omega
    have k5 : (2 : Int) ≤ (oc : Int) := by omega
    have k6 : ¬ oc = 1 := by omega
    have HO : Hid (∀ w', Below w2.heap.size w2 w' → q0.ok w' ∧ q1.ok w' ∧ w'.cell? ⟨og, 0, none⟩ = some q0.val ∧ w'.cell? ⟨og, 1, none⟩ = some q1.val) := fun w' h => ⟨ok0.old h, ok1.old h, (h.cell (p := ⟨og, 0, none⟩) hog).trans cell0, (h.cell (p := ⟨og, 1, none⟩) hog).trans cell1⟩
    have HJ0 : Hid (∀ w', Below w2.heap.size w2 w' → ∀ cp, Calls Try.prog 9 #[.slice (some ⟨og, 0, none⟩) 1 cp] w' fun e w'' => ∃ ja jc, e = .returned (.slice ja q0.l.length jc) ∧ Part.ok w'' ⟨ja, jc, q0.l⟩ ∧ Below w'.heap.size w' w'' ∧ ∀ b off sp, ja = some ⟨b, off, sp⟩ → w'.heap.size ≤ b ∧ b < w''.heap.size) := by
      intro w' h cp
      obtain ⟨o0, _, c0, _⟩ := HO.out w' h
      have hP : Parts w' (some ⟨og, 0, none⟩) [q0] := ⟨.inr ⟨og, 0, rfl, fun i hi => by simp at hi; subst hi; exact c0⟩, by intro p hp; simp at hp; subst hp; exact o0⟩
      refine (joined_any (some ⟨og, 0, none⟩) 1 cp [q0] w' rfl hP (by simp [allB]; omega) (by omega)).mono ?_
      rintro e w'' ⟨v, rfl, ho, hb⟩
      obtain ⟨ja, jc, rfl⟩ := owns_shape ho
      have e : allB [q0] = q0.l := by simp [allB]
      rw [e] at ho
      exact ⟨ja, jc, by rw [e], ho.part o0.2.1, hb, fun b off sp h => ho.lt b (by rw [h]; rfl)⟩
    have HJ1 : Hid (∀ w', Below w2.heap.size w2 w' → ∀ cp, Calls Try.prog 9 #[.slice (some ⟨og, 1, none⟩) 1 cp] w' fun e w'' => ∃ ja jc, e = .returned (.slice ja q1.l.length jc) ∧ Part.ok w'' ⟨ja, jc, q1.l⟩ ∧ Below w'.heap.size w' w'' ∧ ∀ b off sp, ja = some ⟨b, off, sp⟩ → w'.heap.size ≤ b ∧ b < w''.heap.size) := by
      intro w' h cp
      obtain ⟨_, o1, _, c1⟩ := HO.out w' h
      have hP : Parts w' (some ⟨og, 1, none⟩) [q1] := ⟨.inr ⟨og, 1, rfl, fun i hi => by simp at hi; subst hi; exact c1⟩, by intro p hp; simp at hp; subst hp; exact o1⟩
      refine (joined_any (some ⟨og, 1, none⟩) 1 cp [q1] w' rfl hP (by simp [allB]; omega) (by omega)).mono ?_
      rintro e w'' ⟨v, rfl, ho, hb⟩
      obtain ⟨ja, jc, rfl⟩ := owns_shape ho
      have e : allB [q1] = q1.l := by simp [allB]
      rw [e] at ho
      exact ⟨ja, jc, by rw [e], ho.part o1.2.1, hb, fun b off sp h => ho.lt b (by rw [h]; rfl)⟩
    obtain ⟨n0, hn0⟩ : ∃ n, n = q0.l.length := ⟨_, rfl⟩
    obtain ⟨n1, hn1⟩ : ∃ n, n = q1.l.length := ⟨_, rfl⟩
    have HN0 : Hid (q0.l.length = n0) := hn0.symm
    have HN1 : Hid (q1.l.length = n1) := hn1.symm
    simp only [← hn0] at HJ0
    simp only [← hn1] at HJ1
    rw [← hn0, ← hn1] at hlen01
    clear ok0 ok1 cell0 cell1 hn0 hn1
    go_cut [19] (fun s19 wx => ∃ (D : Nat) (ja ka : Option Addr) (jc kc : Nat), s19 = .pointer (some ⟨D, 0, none⟩) ∧ wx.cell? ⟨D, 0, none⟩ = some (.slice ja n0 jc) ∧ wx.cell? ⟨D, 1, none⟩ = some (.slice ka n1 kc) ∧ Part.ok wx ⟨ja, jc, q0.l⟩ ∧ Part.ok wx ⟨ka, kc, q1.l⟩ ∧ Below w2.heap.size w2 wx)
    case first =>
      refine Mix.start (by kernel_rfl) ?_
      have hbA : Below w2.heap.size w2 w2.drew := (Below.refl _ _).drew
      obtain ⟨wA, hwA⟩ : ∃ wA, wA = w2.drew := ⟨_, rfl⟩
      rw [← hwA] at hbA ⊢
      clear hwA
      refine Mix.take [true, true, false, true, true] 5 (by kernel_rfl) (by kernel_rfl) (by decide) (by kernel_rfl) (fun K hK => ?_)
      simp only [Mix.pick]
      repeat (go_big_quiet_step (fail))
      refine wpQuiet_nil (hK _ ?_)
      clear hK K
      refine Mix.pair [false, false, true] [false, false, false, false, false, false, false, true] 4 2 7 _ _ rfl rfl rfl rfl (by kernel_rfl) (by kernel_rfl) (fun K hK => ?_) (fun K hK => ?_)
      · simp only [Mix.pick]
        go_wp2_with fail
        refine (HJ0.out _ hbA _).mono ?_
        rintro e wB ⟨ja, jc, rfl, okj, hbB, hja⟩
        have hb2B := hbA.trans (hbB.mono hbA.size)
        go_wp2
        refine ⟨rfl, hK _ _ ?_⟩
        clear hK K
        refine Mix.pair [false, false, false, false, false, true] [false, false, false, false, false, false, false, true] 3 5 7 _ _ rfl rfl rfl rfl (by kernel_rfl) (by kernel_rfl) (fun K hK => ?_) (fun K hK => ?_)
        · simp only [Mix.pick]
          go_wp2_with fail
          refine (HJ1.out _ hb2B _).mono ?_
          rintro e wC ⟨ka, kc, rfl, okk, hbC, hka⟩
          have hb2C := hb2B.trans (hbC.mono hb2B.size)
          have okj' := okj.old hbC
          go_wp2
          refine ⟨rfl, hK _ _ ?_⟩
          clear hK K
          refine Mix.take [false, false, false, false, false, false, true] 2 (by kernel_rfl) (by kernel_rfl) (by decide) (by kernel_rfl) (fun K hK => ?_)
          simp only [Mix.pick]
          repeat (go_big_quiet_step (fail))
          refine wpQuiet_nil (hK _ ?_)
          clear hK K
          refine Mix.one [false, false, false, false, false, false, false, true] 1 7 _ rfl rfl (by kernel_rfl) (by kernel_rfl) (fun K hK => ?_)
          simp only [Mix.pick]
          go_wp2
          refine ⟨rfl, hK _ _ ?_⟩
          clear hK K
          refine Mix.one [false, false, false, false, false, false, false, false, true] 0 8 _ rfl rfl (by kernel_rfl) (by kernel_rfl) (fun K hK => ?_)
          simp only [Mix.pick]
          go_wp2
          refine ⟨rfl, hK _ _ ?_⟩
          clear hK K
          refine Mix.done (by kernel_rfl) ?_
          go_wp2
          go_meet
          exact ⟨wC.heap.size, ja, ka, jc, kc, rfl, by rw [World.cell?_alloc_at _ _ _ _ rfl]; rfl, by rw [World.cell?_alloc_at _ _ _ _ rfl]; rfl, okj'.old ((Below.refl _ _).alloc (Nat.le_refl _) _), okk.old ((Below.refl _ _).alloc (Nat.le_refl _) _), hb2C.alloc hb2C.size _⟩
        · simp only [Mix.pick]
          go_wp2
          refine ⟨rfl, hK _ _ ?_⟩
          clear hK K
          obtain ⟨wL, hwL⟩ : ∃ wL, wL = wB.alloc (.cells #[.slice none 0 0, .slice none 0 0] 38) := ⟨_, rfl⟩
          obtain ⟨D, hD⟩ : ∃ D, D = wB.heap.size := ⟨_, rfl⟩
          rw [← hD] at hja
          have l0 : wL.cell? ⟨D, 0, none⟩ = some (.slice none 0 0) := by rw [hwL, hD, World.cell?_alloc_at _ _ _ _ rfl]; rfl
          have l1 : wL.cell? ⟨D, 1, none⟩ = some (.slice none 0 0) := by rw [hwL, hD, World.cell?_alloc_at _ _ _ _ rfl]; rfl
          have lf0 : wL.frozen? ⟨D, 0, none⟩ = false := by rw [hwL, hD]; simp [go_sem]
          have lf1 : wL.frozen? ⟨D, 1, none⟩ = false := by rw [hwL, hD]; simp [go_sem]
          have hDL : D < wL.heap.size := World.block_lt_of_cell? wL _ l0
          have hbL : Below wB.heap.size wB wL := by rw [hwL]; exact (Below.refl _ _).alloc (Nat.le_refl _) _
          have hD2 : w2.heap.size ≤ D := by rw [hD]; exact hb2B.size
          rw [← hwL, ← hD]
          clear hwL hD
          have hb2L := hb2B.trans (hbL.mono hb2B.size)
          have okjL := okj.old hbL
          refine Mix.one [false, false, false, false, false, true] 2 5 _ rfl rfl (by kernel_rfl) (by kernel_rfl) (fun K hK => ?_)
          simp only [Mix.pick]
          go_wp2_with fail
          refine (HJ1.out _ hb2L _).mono ?_
          rintro e wC ⟨ka, kc, rfl, okk, hbC, hka⟩
          have hb2C := hb2L.trans (hbC.mono hb2L.size)
          have okj' := okjL.old hbC
          go_wp2
          refine ⟨rfl, hK _ _ ?_⟩
          clear hK K
          have m0 := (hbC.cell (p := ⟨D, 0, none⟩) hDL).trans l0
          have m1 := (hbC.cell (p := ⟨D, 1, none⟩) hDL).trans l1
          have mf0 := (hbC.frozen (p := ⟨D, 0, none⟩) hDL).trans lf0
          have mf1 := (hbC.frozen (p := ⟨D, 1, none⟩) hDL).trans lf1
          refine Mix.take [false, false, false, false, false, false, true] 1 (by kernel_rfl) (by kernel_rfl) (by decide) (by kernel_rfl) (fun K hK => ?_)
          simp only [Mix.pick]
          repeat (go_big_quiet_step (fail))
          refine wpQuiet_nil (hK _ ?_)
          clear hK K
          have s1 : (wC.setCell ⟨D, 0, none⟩ (.slice ja n0 jc)).cell? ⟨D, 1, none⟩ = some (.slice none 0 0) := by rw [World.cell?_setCell_other _ _ _ _ (by simp)]; exact m1
          refine Mix.one [false, false, false, false, false, false, false, false, true] 0 8 _ rfl rfl (by kernel_rfl) (by kernel_rfl) (fun K hK => ?_)
          simp only [Mix.pick]
          go_wp2
          refine ⟨rfl, hK _ _ ?_⟩
          clear hK K
          refine Mix.done (by kernel_rfl) ?_
          go_wp2
          go_meet
          have hjne : ∀ b off sp, ja = some ⟨b, off, sp⟩ → b ≠ D := fun b off sp h => by have := (hja b off sp h).2; omega
          have hkne : ∀ b off sp, ka = some ⟨b, off, sp⟩ → b ≠ D := fun b off sp h => by have := (hka b off sp h).1; omega
          exact ⟨D, ja, ka, jc, kc, rfl, by rw [World.cell?_setCell_other _ _ _ _ (by simp)]; exact World.cell?_setCell_same _ _ _ m0, World.cell?_setCell_same _ _ _ s1, part_set (part_set okj' hjne) hjne, part_set (part_set okk hkne) hkne, (hb2C.setCell hD2 _).setCell hD2 _⟩
      · simp only [Mix.pick]
        go_wp2
        refine ⟨rfl, hK _ _ ?_⟩
        clear hK K
        obtain ⟨wL, hwL⟩ : ∃ wL, wL = wA.alloc (.cells #[.slice none 0 0, .slice none 0 0] 38) := ⟨_, rfl⟩
        obtain ⟨D, hD⟩ : ∃ D, D = wA.heap.size := ⟨_, rfl⟩
        have l0 : wL.cell? ⟨D, 0, none⟩ = some (.slice none 0 0) := by rw [hwL, hD, World.cell?_alloc_at _ _ _ _ rfl]; rfl
        have l1 : wL.cell? ⟨D, 1, none⟩ = some (.slice none 0 0) := by rw [hwL, hD, World.cell?_alloc_at _ _ _ _ rfl]; rfl
        have lf0 : wL.frozen? ⟨D, 0, none⟩ = false := by rw [hwL, hD]; simp [go_sem]
        have lf1 : wL.frozen? ⟨D, 1, none⟩ = false := by rw [hwL, hD]; simp [go_sem]
        have hDL : D < wL.heap.size := World.block_lt_of_cell? wL _ l0
        have hbL : Below wA.heap.size wA wL := by rw [hwL]; exact (Below.refl _ _).alloc (Nat.le_refl _) _
        have hD2 : w2.heap.size ≤ D := by rw [hD]; exact hbA.size
        rw [← hwL, ← hD]
        clear hwL hD
        have hb2L := hbA.trans (hbL.mono hbA.size)
        refine Mix.one [false, false, true] 3 2 _ rfl rfl (by kernel_rfl) (by kernel_rfl) (fun K hK => ?_)
        simp only [Mix.pick]
        go_wp2_with fail
        refine (HJ0.out _ hb2L _).mono ?_
        rintro e wB ⟨ja, jc, rfl, okj, hbB, hja⟩
        have hb2B := hb2L.trans (hbB.mono hb2L.size)
        go_wp2
        refine ⟨rfl, hK _ _ ?_⟩
        clear hK K
        refine Mix.one [false, false, false, false, false, true] 2 5 _ rfl rfl (by kernel_rfl) (by kernel_rfl) (fun K hK => ?_)
        simp only [Mix.pick]
        go_wp2_with fail
        refine (HJ1.out _ hb2B _).mono ?_
        rintro e wC ⟨ka, kc, rfl, okk, hbC, hka⟩
        have hb2C := hb2B.trans (hbC.mono hb2B.size)
        have okj' := okj.old hbC
        go_wp2
        refine ⟨rfl, hK _ _ ?_⟩
        clear hK K
        have hbLC := bthen hbB hbC
        have hszB := hbB.size
        have m0 := (hbLC.cell (p := ⟨D, 0, none⟩) hDL).trans l0
        have m1 := (hbLC.cell (p := ⟨D, 1, none⟩) hDL).trans l1
        have mf0 := (hbLC.frozen (p := ⟨D, 0, none⟩) hDL).trans lf0
        have mf1 := (hbLC.frozen (p := ⟨D, 1, none⟩) hDL).trans lf1
        refine Mix.take [false, false, false, false, false, false, true] 1 (by kernel_rfl) (by kernel_rfl) (by decide) (by kernel_rfl) (fun K hK => ?_)
        simp only [Mix.pick]
        repeat (go_big_quiet_step (fail))
        refine wpQuiet_nil (hK _ ?_)
        clear hK K
        have s1 : (wC.setCell ⟨D, 0, none⟩ (.slice ja n0 jc)).cell? ⟨D, 1, none⟩ = some (.slice none 0 0) := by rw [World.cell?_setCell_other _ _ _ _ (by simp)]; exact m1
        refine Mix.one [false, false, false, false, false, false, false, false, true] 0 8 _ rfl rfl (by kernel_rfl) (by kernel_rfl) (fun K hK => ?_)
        simp only [Mix.pick]
        go_wp2
        refine ⟨rfl, hK _ _ ?_⟩
        clear hK K
        refine Mix.done (by kernel_rfl) ?_
        go_wp2
        go_meet
        have hjne : ∀ b off sp, ja = some ⟨b, off, sp⟩ → b ≠ D := fun b off sp h => by have := (hja b off sp h).1; omega
        have hkne : ∀ b off sp, ka = some ⟨b, off, sp⟩ → b ≠ D := fun b off sp h => by have := (hka b off sp h).1; omega
        exact ⟨D, ja, ka, jc, kc, rfl, by rw [World.cell?_setCell_other _ _ _ _ (by simp)]; exact World.cell?_setCell_same _ _ _ m0, World.cell?_setCell_same _ _ _ s1, part_set (part_set okj' hjne) hjne, part_set (part_set okk hkne) hkne, (hb2C.setCell hD2 _).setCell hD2 _⟩
    case rest =>
    obtain ⟨D, ja, ka, jc, kc, rfl, d0, d1, okj, okk, hb2x⟩ := hcut
    obtain ⟨o0, o1, c0, c1⟩ := HO.out _ hb2x
    rw [Part.val, HN0.out] at c0
    rw [Part.val, HN1.out] at c1
    obtain ⟨q0a, q0c, q0l⟩ := q0
    obtain ⟨q1a, q1c, q1l⟩ := q1
    simp only at c0 c1 HN0 HN1 okj okk
    have hDx : D < wc.heap.size := World.block_lt_of_cell? wc _ d0
    obtain ⟨u, hu⟩ : ∃ u, u = fbN a0 q0l q1l := ⟨_, rfl⟩
    obtain ⟨v, hv⟩ : ∃ v, v = fbE a0 q0l q1l := ⟨_, rfl⟩
    have HFB : Hid (∀ (k : Nat), Calls Try.prog 19 #[.int .i64 a0, .slice q0a n0 q0c, .slice q1a n1 q1c] (wc.drewN k) fun e w' => e = .returned (.tuple #[.int .i64 u, .int .i64 v]) ∧ ∃ m, w' = wc.drewN m) := by
      intro k
      rw [hu, hv]
      exact Calls.quiet_of (fixBytes_q a0 q0a q1a n0 n1 q0c q1c q0l q1l (wc.drewN k) HN0.out HN1.out (o0.old (below_drewN _ _)) (o1.old (below_drewN _ _)) (by omega))
    have HRF : Hid (∀ w', Below wc.heap.size wc w' → Calls Try.prog 20 #[.int .i64 a0, .slice ja n0 jc, .slice ka n1 kc] w' fun e w'' => e = .returned (.tuple #[.int .i64 u, .int .i64 v]) ∧ Below w'.heap.size w' w'') := by
      intro w' h
      rw [hu, hv]
      exact rfixBytes_any a0 ja ka n0 n1 jc kc q0l q1l w' HN0.out HN1.out (okj.old h) (okk.old h) (by omega)
    have huu : (u == u) = true := by simp
    have hvv : (v == v) = true := by simp
    have e0 : (0 : Int) < (Q : Int) := by omega
    have e1 : (1 : Int) < (Q : Int) := by omega
    have e2 : 0 < Q := by omega
    have e3 : 1 < Q := by omega
    clear hu hv HO HJ0 HJ1 okj okk o0 o1
    go_wp2_with fail
    go_quiet ((go_at_call 19; exact HFB.out _))
    have hbq := below_drewN wc nq
    have d0' : (wc.drewN nq).cell? ⟨D, 0, none⟩ = some (.slice ja n0 jc) := d0
    have d1' : (wc.drewN nq).cell? ⟨D, 1, none⟩ = some (.slice ka n1 kc) := d1
    go_wp2_with fail
    refine (HRF.out _ hbq).mono ?_
    rintro e w5 ⟨rfl, hb5⟩
    have hb25 := bthen (bthen hb2x hbq) hb5
    go_wp2_with fail
    refine (same_any (some ⟨g, 0, none⟩) wa m m c wcc AL AL _ (OwnB.len hoA) (OwnB.len hoA) ((owns_seg_at hoA).1.old hb25) ((owns_seg_at hoW).1.old hb25) (by omega)).mono ?_
    rintro e w9 ⟨rfl, hb9⟩
    rw [decide_eq_true rfl]
    go_wp2
    go_ret
    exact ⟨rfl, bthen hb02 (bthen hb25 hb9)⟩
end Go.Proofs.Ytfnmidaiabjpbab.sumFixes
