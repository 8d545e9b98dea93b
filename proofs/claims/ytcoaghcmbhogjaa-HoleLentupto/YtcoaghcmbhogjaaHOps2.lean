/-
  Package hole: endAt, Gaps, Held.
-/
import Derived.Test.YtcoaghcmbhogjaaHOps
namespace Go.Proofs.Ytcoaghcmbhogjaa
open Go.RowKit Go.Maps
namespace H11

theorem Try.infoGap : (Try.prog.info? 45).map (fun i => (i.zero, i.size, i.bytes)) = some (some (.agg #[.int .i64 0, .int .i64 0]), 2, 16) := by kernel_rfl

theorem owns_shrink {w : World} {e : TypeId} {size n c k : Nat} {a : Option Addr} {xs : List Value} (h : w.ownsRow 0 e size (.slice a n c) n xs) (hk : 0 < k) (hn : k ≤ n) : w.ownsRow 0 e size (.slice a k c) k (xs.take (k * size)) := by
  have hl := h.1
  have hks : k * size ≤ n * size := Nat.mul_le_mul_right _ hn
  refine ⟨by rw [List.length_take]; omega, ?_⟩
  rcases h.2 with ⟨e1, e2⟩ | ⟨g, cap, cur, e1, e2, e3, e4, e5, e6, e7⟩
  · omega
  · simp only [Value.slice.injEq] at e1
    obtain ⟨rfl, _, rfl⟩ := e1
    refine .inr ⟨g, c, cur, rfl, e2, e3, by omega, e5, e6, ?_⟩
    rw [← e7, List.take_take]
    congr 1
    omega
/-- a slice of a row, from its front: nothing of it -/
theorem owns_none {w : World} {e : TypeId} {size n c : Nat} {a : Option Addr} {xs : List Value} (h : w.ownsRow 0 e size (.slice a n c) n xs) (hn : 0 < n) : w.ownsRow 0 e size (.slice a 0 c) 0 [] := by
  rcases h.2 with ⟨e1, e2⟩ | ⟨g, cap, cur, e1, e2, e3, e4, e5, e6, e7⟩
  · omega
  · simp only [Value.slice.injEq] at e1
    obtain ⟨rfl, _, rfl⟩ := e1
    exact ⟨by simp, .inr ⟨g, c, cur, rfl, e2, e3, by omega, e5, e6, by simp⟩⟩
theorem gC_take (gs : List (Nat × Nat)) (k : Nat) : (gC gs).take (k * 2) = gC (gs.take k) := by
  induction gs generalizing k with
  | nil => simp [gC]
  | cons g r ih =>
    cases k with
    | zero => simp [gC]
    | succ k =>
      have := ih k
      rw [show (k + 1) * 2 = k * 2 + 1 + 1 by omega]
      simp only [gC, List.flatMap_cons, List.take_succ_cons] at this ⊢
      simp only [List.cons_append, List.nil_append, List.take_succ_cons, this]
theorem HAt.some_gap {w : World} {H : Nat} {s : HS} {v : HV} (h : HAt w H s v) (hp : 0 < s.gp.length) : ∃ g c, v.gv = .slice (some ⟨g, 0, none⟩) s.gp.length c ∧ s.gp.length ≤ c := by
  rcases h.go.2 with ⟨e1, e2⟩ | ⟨g, cap, cur, e1, e2, e3, e4, e5, e6, e7⟩
  · omega
  · exact ⟨g, cap, e1, e4⟩

theorem moved_drew {w : World} {H : Nat} {v : HV} {a b : Addr} {x y : Value} {s' : HS} (h : Moved w H v ((w.setCell a x).setCell b y) s') : Moved w H v ((w.drew.setCell a x).setCell b y) s' := by
  obtain ⟨v', h1, h2, h3⟩ := h
  have k : Ch (fun _ => False) ((w.setCell a x).setCell b y) ((w.drew.setCell a x).setCell b y) := ⟨rfl, rfl, rfl, Nat.le_refl _, fun _ _ _ => rfl⟩
  exact ⟨v', h1.ch k (fun _ _ => id), h2, h3.trans k (fun _ _ e => e.elim)⟩

set_option maxRecDepth 100000 in
set_option maxHeartbeats 1600000 in
theorem endAt_any (w : World) (H : Nat) (s : HS) (v : HV) (h : HAt w H s v) (e : Nat) (hg : s.en = 0 → e < s.mx → 0 < s.gp.length) (hl : s.gp.length ≤ 65535) :
    Calls Try.prog 35 #[.pointer (some ⟨H, 0, none⟩), .int .i64 (e : Int)] w fun r w' => r = .returned (.tuple #[]) ∧ Moved w H v w' { s with en := e, gp := if s.en = 0 ∧ e < s.mx then s.gp.dropLast else s.gp } := by
  obtain ⟨s', hs'⟩ : ∃ s' : HS, s' = { s with en := e, gp := if s.en = 0 ∧ e < s.mx then s.gp.dropLast else s.gp } := ⟨_, rfl⟩
  rw [← hs']
  have HS' : Hid _ := hs'
  clear hs'
  have c0 := h.c0
  have c1 := h.c1
  have f1 := h.fz 1
  have f3 := h.fz 3
  by_cases h1 : s.en = 0
  · by_cases h2 : e < s.mx
    · have hp := hg h1 h2
      obtain ⟨g, c, hgv, hgc⟩ := h.some_gap hp
      obtain ⟨G, hG⟩ : ∃ G, s.gp.length = G + 1 := ⟨s.gp.length - 1, by omega⟩
      have c3 := h.c3
      rw [hgv, hG] at c3
      have hS1 : Moved w H v (w.setCell ⟨H, 3, none⟩ (.slice (some ⟨g, 0, none⟩) G c)) { s with gp := s.gp.dropLast } := by
        refine h.setG (Ch.refl _ _) _ _ ?_ (fun q hq => .inl ?_)
        · have e2 : s.gp.dropLast.length = G := by rw [List.length_dropLast]; omega
          have e3 : gC s.gp.dropLast = (gC s.gp).take (G * 2) := by rw [gC_take, List.dropLast_eq_take, hG]; rfl
          have ho := h.go
          rw [hgv, hG] at ho
          rw [e2, e3]
          by_cases g0 : G = 0
          · subst g0
            simpa using owns_none ho (by omega)
          · exact owns_shrink ho (by omega) (by omega)
        · rw [hgv]; exact hq
      have HF : Hid (Moved w H v ((w.setCell ⟨H, 3, none⟩ (.slice (some ⟨g, 0, none⟩) G c)).setCell ⟨H, 1, none⟩ (.int .i64 (e : Int))) s') := by
        show Moved _ _ _ _ _
        rw [HS'.out, if_pos ⟨h1, h2⟩]
        obtain ⟨v1, k1, k2, k3⟩ := hS1
        obtain ⟨k4, k5⟩ := k1.setE e
        exact Moved.then k2 k3 ⟨v1, k4, fun x hx => .inl hx, k5⟩
      have d1 : ((s.en : Int) == 0) = true := by rw [beq_iff_eq]; omega
      have d2 : (e : Int) < (s.mx : Int) := by omega
      have wr : IntKind.i64.wrap (((G + 1 : Nat) : Int) - 1) = (G : Int) := by rw [IntKind.wrap_i64]; omega
      have wr2 : wrap64 (G : Int) = (G : Int) := by unfold wrap64; omega
      have d3 : G ≤ c := by omega
      have hcm : c ≤ maxLen := by
        have ho := h.go
        rw [hgv] at ho
        rcases ho.2 with ⟨e1, _⟩ | ⟨g', cap, cur, e1, _, _, _, e5, _⟩
        · simp at e1
        · simp only [Value.slice.injEq] at e1
          obtain ⟨_, _, rfl⟩ := e1
          exact e5
      clear hS1 hgv hgc hG hp h1 h2 hg hl h
      go_enter Try.func35, Try.ntmps35
      go_upto_region 1 with fail
      refine Mix.start (by kernel_rfl) ?_
      obtain ⟨wA, hwA⟩ : ∃ wA, wA = w.drew := ⟨_, rfl⟩
      replace c3 : wA.cell? ⟨H, 3, none⟩ = some (.slice (some ⟨g, 0, none⟩) (G + 1) c) := by rw [hwA]; exact c3
      replace c1 : wA.cell? ⟨H, 1, none⟩ = some (.int .i64 (s.en : Int)) := by rw [hwA]; exact c1
      replace f3 : wA.frozen? ⟨H, 3, none⟩ = false := by rw [hwA]; exact f3
      replace f1 : wA.frozen? ⟨H, 1, none⟩ = false := by rw [hwA]; exact f1
      have f1' : (wA.setCell ⟨H, 3, none⟩ (.slice (some ⟨g, 0, none⟩) G c)).frozen? ⟨H, 1, none⟩ = false := by rw [World.frozen?_setCell]; exact f1
      have c1' : (wA.setCell ⟨H, 3, none⟩ (.slice (some ⟨g, 0, none⟩) G c)).cell? ⟨H, 1, none⟩ = some (.int .i64 (s.en : Int)) := by rw [cell_ne _ _ _ _ _ (by omega)]; exact c1
      replace HF : Hid (Moved w H v ((wA.setCell ⟨H, 3, none⟩ (.slice (some ⟨g, 0, none⟩) G c)).setCell ⟨H, 1, none⟩ (.int .i64 (e : Int))) s') := by rw [hwA]; exact moved_drew HF.out
      rw [← hwA]
      clear hwA c0
      refine Mix.take [true, true, true, true, false, true, true, true] 8 (by kernel_rfl) (by kernel_rfl) (by decide) (by kernel_rfl) (fun K hK => ?_)
      simp only [Mix.pick]
      repeat (go_big_quiet_step (fail))
      refine wpQuiet_nil (hK _ ?_)
      clear hK K
      refine Mix.pair [false, false, false, false, true] [false, false, false, false, false, false, false, false, true] 7 4 8 _ _ rfl rfl rfl rfl (by kernel_rfl) (by kernel_rfl) (fun K hK => ?_) (fun K hK => ?_)
      · simp only [Mix.pick]
        go_wp2
        refine ⟨rfl, hK _ _ ?_⟩
        clear hK K
        refine Mix.one [false, false, false, false, false, false, false, false, true] 6 8 _ rfl rfl (by kernel_rfl) (by kernel_rfl) (fun K hK => ?_)
        simp only [Mix.pick]
        go_wp2
        refine ⟨rfl, hK _ _ ?_⟩
        clear hK K
        refine Mix.take [false, false, false, false, false, false, false, false, false, true, true] 4 (by kernel_rfl) (by kernel_rfl) (by decide) (by kernel_rfl) (fun K hK => ?_)
        simp only [Mix.pick]
        repeat (go_big_quiet_step (fail))
        refine wpQuiet_nil (hK _ ?_)
        clear hK K
        refine Mix.one [false, false, false, false, false, false, false, false, false, false, false, true] 3 11 _ rfl rfl (by kernel_rfl) (by kernel_rfl) (fun K hK => ?_)
        simp only [Mix.pick]
        go_wp2
        refine ⟨rfl, hK _ _ ?_⟩
        clear hK K
        refine Mix.take [false, false, false, false, false, false, false, false, false, false, false, false, true, true] 1 (by kernel_rfl) (by kernel_rfl) (by decide) (by kernel_rfl) (fun K hK => ?_)
        simp only [Mix.pick]
        repeat (go_big_quiet_step (fail))
        refine wpQuiet_nil (hK _ ?_)
        clear hK K
        refine Mix.one [false, false, false, false, false, false, false, false, false, false, false, false, false, false, true] 0 14 _ rfl rfl (by kernel_rfl) (by kernel_rfl) (fun K hK => ?_)
        simp only [Mix.pick]
        go_wp2
        refine ⟨rfl, hK _ _ ?_⟩
        clear hK K
        refine Mix.done (by kernel_rfl) ?_
        go_wp2
        go_end0
        exact ⟨rfl, HF.out⟩
      · simp only [Mix.pick]
        go_wp2
        refine ⟨rfl, hK _ _ ?_⟩
        clear hK K
        refine Mix.take [false, false, false, false, false, false, false, false, false, true, true] 5 (by kernel_rfl) (by kernel_rfl) (by decide) (by kernel_rfl) (fun K hK => ?_)
        simp only [Mix.pick]
        repeat (go_big_quiet_step (fail))
        refine wpQuiet_nil (hK _ ?_)
        clear hK K
        refine Mix.one [false, false, false, false, true] 4 4 _ rfl rfl (by kernel_rfl) (by kernel_rfl) (fun K hK => ?_)
        simp only [Mix.pick]
        go_wp2
        refine ⟨rfl, hK _ _ ?_⟩
        clear hK K
        refine Mix.one [false, false, false, false, false, false, false, false, false, false, false, true] 3 11 _ rfl rfl (by kernel_rfl) (by kernel_rfl) (fun K hK => ?_)
        simp only [Mix.pick]
        go_wp2
        refine ⟨rfl, hK _ _ ?_⟩
        clear hK K
        refine Mix.take [false, false, false, false, false, false, false, false, false, false, false, false, true, true] 1 (by kernel_rfl) (by kernel_rfl) (by decide) (by kernel_rfl) (fun K hK => ?_)
        simp only [Mix.pick]
        repeat (go_big_quiet_step (fail))
        refine wpQuiet_nil (hK _ ?_)
        clear hK K
        refine Mix.one [false, false, false, false, false, false, false, false, false, false, false, false, false, false, true] 0 14 _ rfl rfl (by kernel_rfl) (by kernel_rfl) (fun K hK => ?_)
        simp only [Mix.pick]
        go_wp2
        refine ⟨rfl, hK _ _ ?_⟩
        clear hK K
        refine Mix.done (by kernel_rfl) ?_
        go_wp2
        go_end0
        exact ⟨rfl, HF.out⟩
    · have HF : Hid (Moved w H v (w.setCell ⟨H, 1, none⟩ (.int .i64 (e : Int))) s') := by
        show Moved _ _ _ _ _
        rw [HS'.out, if_neg (fun k => h2 k.2)]
        obtain ⟨k4, k5⟩ := h.setE e
        exact ⟨v, k4, fun x hx => .inl hx, k5⟩
      have d1 : ((s.en : Int) == 0) = true := by rw [beq_iff_eq]; omega
      have d2 : ¬ (e : Int) < (s.mx : Int) := by omega
      clear h1 h2 hg hl h
      go_enter Try.func35, Try.ntmps35
      go_wp2
      go_end0
      exact ⟨rfl, HF.out⟩
  · have HF : Hid (Moved w H v (w.setCell ⟨H, 1, none⟩ (.int .i64 (e : Int))) s') := by
      show Moved _ _ _ _ _
      rw [HS'.out, if_neg (fun k => h1 k.1)]
      obtain ⟨k4, k5⟩ := h.setE e
      exact ⟨v, k4, fun x hx => .inl hx, k5⟩
    have d1 : ((s.en : Int) == 0) = false := by rw [beq_eq_false_iff_ne]; omega
    clear h1 hg hl h
    go_enter Try.func35, Try.ntmps35
    go_wp2
    go_end0
    exact ⟨rfl, HF.out⟩

end H11
end Go.Proofs.Ytcoaghcmbhogjaa
