/-
  Package hole: Held.
-/
import Derived.Test.YtcoaghcmbhogjaaHOps3
namespace Go.Proofs.Ytcoaghcmbhogjaa
open Go.RowKit Go.Maps
namespace H11

theorem sm_step (gs : List (Nat × Nat)) (k : Nat) (h : k < gs.length) : sm (gs.take (k + 1)) = sm (gs.take k) + ((gs.getD k (0, 0)).2 - (gs.getD k (0, 0)).1) := by
  rw [List.take_add_one, sm_app]
  simp [List.getD, h, sm]
theorem sm_take (gs : List (Nat × Nat)) (k : Nat) : sm (gs.take k) ≤ sm gs := by
  have := sm_app (gs.take k) (gs.drop k)
  rw [List.take_append_drop] at this
  omega
theorem Ris.at {hi : Nat} : ∀ {gs : List (Nat × Nat)} {lo : Nat}, Ris lo gs hi → ∀ k, k < gs.length → (gs.getD k (0, 0)).1 < (gs.getD k (0, 0)).2 ∧ (gs.getD k (0, 0)).2 ≤ hi
  | [], _, _, k, hk => by simp at hk
  | g :: r, lo, ⟨h1, h2, h3, h4⟩, k, hk => by
    cases k with
    | zero => exact ⟨h2, h3⟩
    | succ k => simpa using Ris.at h4 k (by simpa using hk)

set_option maxRecDepth 100000 in
set_option maxHeartbeats 3200000 in
theorem held_any (w : World) (H : Nat) (s : HS) (v : HV) (h : HAt w H s v) (hi : Inv s) :
    Calls Try.prog 19 #[.pointer (some ⟨H, 0, none⟩)] w fun r w' => r = .returned (.int .i64 ((s.bd : Int) - (sm s.gp : Int))) ∧ Below w.heap.size w w' := by
  obtain ⟨ga, gc, hgv, g0, gs0, gle, gcl⟩ := h.gaps
  have c0 := h.c0
  have c1 := h.c1
  have c3 := h.c3
  rw [hgv] at c3
  obtain ⟨G, hG⟩ : ∃ G, G = s.gp.length := ⟨_, rfl⟩
  rw [← hG] at c3 g0
  have HG : Hid (G = s.gp.length) := hG
  have HC : Hid (∀ k, k < G → ∃ g, ga = some ⟨g, 0, none⟩ ∧ w.cell? ⟨g, k * 2, none⟩ = some (.int .i64 ((s.gp.getD k (0, 0)).1 : Int)) ∧ w.cell? ⟨g, k * 2 + 1, none⟩ = some (.int .i64 ((s.gp.getD k (0, 0)).2 : Int))) := by
    intro k hk
    cases ga with
    | none => have := g0 rfl; omega
    | some b =>
      obtain ⟨g, rfl, _⟩ := gs0 b rfl
      have ho := h.go
      rw [hgv] at ho
      obtain ⟨k1, k2⟩ := gC_cell ho k (by rw [← hG]; exact hk)
      exact ⟨g, rfl, k1, k2⟩
  have HGL : Hid (∀ g, ga = some ⟨g, 0, none⟩ → g < w.heap.size) := by
    intro g hg
    obtain ⟨g', e1, e2⟩ := gs0 _ hg
    simp at e1
    rw [e1]
    exact h.lt g' (.inr (.inr (.inr e2)))
  have HB1 : Hid (∀ k, k < G → (s.gp.getD k (0, 0)).1 ≤ (s.gp.getD k (0, 0)).2 ∧ (s.gp.getD k (0, 0)).2 ≤ 65535) := by
    intro k hk
    have := hi.ris.at k (by rw [← hG]; exact hk)
    have h3 := HS.bd_le hi
    omega
  obtain ⟨M, hM⟩ : ∃ M, M = s.bd := ⟨_, rfl⟩
  rw [← hM]
  have hM5 : M ≤ 65535 := by rw [hM]; exact (HS.bd_le hi).1
  have HB2 : Hid (∀ k, sm (s.gp.take k) ≤ M) := by
    intro k
    have h1 := sm_take s.gp k
    have h2 := hi.ris.sum
    rw [hM]
    omega
  have HM : Hid (M ≤ 65535) := hM5
  have hG5 : G ≤ 65535 := by have h1 := hi.ris.len; have h2 := (HS.bd_le hi).1; omega
  by_cases h1 : 0 < s.en
  · have d1 : (0 : Int) < (s.en : Int) := by omega
    have hMe : M = s.en := by rw [hM]; unfold HS.bd; rw [if_pos h1]
    rw [← hMe] at c1 d1
    clear hMe hM hG h1 hgv gcl gs0 g0 gle hi h hM5
    go_enter Try.func19, Try.ntmps19
    go_wp2
    go_loopw [3, 24] (fun hv ix wr => ∃ k : Nat, k ≤ G ∧ ix = .int .i64 k ∧ hv = .int .i64 ((M : Int) - (sm (s.gp.take k) : Int)) ∧ Below w.heap.size w wr) (fun _ ix _ => G - (intOf ix).toNat)
    case atStart => exact ⟨0, Nat.zero_le _, rfl, by simp [sm], Below.refl _ _⟩
    case round =>
      obtain ⟨k, hk, rfl, rfl, hb⟩ := hrel
      by_cases hlt : k < G
      · obtain ⟨g, hga, cc1, cc2⟩ := HC.out k hlt
        have hgl := HGL.out g hga
        subst hga
        obtain ⟨x, hx⟩ : ∃ x, x = (s.gp.getD k (0, 0)).1 := ⟨_, rfl⟩
        obtain ⟨y, hy⟩ : ∃ y, y = (s.gp.getD k (0, 0)).2 := ⟨_, rfl⟩
        rw [← hx] at cc1
        rw [← hy] at cc2
        have d1 := HB1.out k hlt
        rw [← hx, ← hy] at d1
        obtain ⟨d1a, d1b⟩ := d1
        have cc1' : wr.cell? ⟨g, k * 2, none⟩ = some (.int .i64 (x : Int)) := (World.cell?_of_block (hb.block g hgl)).trans cc1
        have cc2' : wr.cell? ⟨g, k * 2 + 1, none⟩ = some (.int .i64 (y : Int)) := (World.cell?_of_block (hb.block g hgl)).trans cc2
        obtain ⟨Z, hZ⟩ : ∃ Z, Z = sm (s.gp.take k) := ⟨_, rfl⟩
        have hstep : sm (s.gp.take (k + 1)) = Z + (y - x) := by rw [sm_step s.gp k (by rw [← HG.out]; exact hlt), ← hx, ← hy, ← hZ]
        have hle := HB2.out (k + 1)
        rw [hstep] at hle
        rw [← hZ]
        have w1 : IntKind.i64.wrap ((y : Int) - (x : Int)) = (y : Int) - (x : Int) := by rw [IntKind.wrap_i64]; omega
        have w2 : IntKind.i64.wrap ((M : Int) - (Z : Int) - ((y : Int) - (x : Int))) = (M : Int) - (Z : Int) - ((y : Int) - (x : Int)) := by rw [IntKind.wrap_i64]; have := HM.out; omega
        have HST : Hid _ := hstep
        have HXY : Hid (x ≤ y) := d1a
        clear hx hy hZ hstep hle d1a d1b cc1 cc2
        go_wp2
        go_roundw
        case rel => exact ⟨k + 1, by omega, by go_num, by rw [HST.out]; have := HXY.out; congr 1; omega, by first | exact hb.alloc hb.size _ | skip⟩
        case measure => simp [intOf]; omega
      · have hkG : k = G := by omega
        have hfin : s.gp.take k = s.gp := List.take_of_length_le (by rw [hkG, HG.out]; exact Nat.le_refl _)
        rw [hfin]
        clear hfin hlt
        go_wp2
        go_ret
        exact ⟨rfl, hb⟩
  · have d1 : ¬ (0 : Int) < (s.en : Int) := by omega
    have hMe : M = s.mx := by rw [hM]; unfold HS.bd; rw [if_neg h1]
    rw [← hMe] at c0
    clear hMe hM hG h1 hgv gcl gs0 g0 gle hi h hM5
    go_enter Try.func19, Try.ntmps19
    go_wp2
    go_loopw [3, 24] (fun hv ix wr => ∃ k : Nat, k ≤ G ∧ ix = .int .i64 k ∧ hv = .int .i64 ((M : Int) - (sm (s.gp.take k) : Int)) ∧ Below w.heap.size w wr) (fun _ ix _ => G - (intOf ix).toNat)
    case atStart => exact ⟨0, Nat.zero_le _, rfl, by simp [sm], Below.refl _ _⟩
    case round =>
      obtain ⟨k, hk, rfl, rfl, hb⟩ := hrel
      by_cases hlt : k < G
      · obtain ⟨g, hga, cc1, cc2⟩ := HC.out k hlt
        have hgl := HGL.out g hga
        subst hga
        obtain ⟨x, hx⟩ : ∃ x, x = (s.gp.getD k (0, 0)).1 := ⟨_, rfl⟩
        obtain ⟨y, hy⟩ : ∃ y, y = (s.gp.getD k (0, 0)).2 := ⟨_, rfl⟩
        rw [← hx] at cc1
        rw [← hy] at cc2
        have d1 := HB1.out k hlt
        rw [← hx, ← hy] at d1
        obtain ⟨d1a, d1b⟩ := d1
        have cc1' : wr.cell? ⟨g, k * 2, none⟩ = some (.int .i64 (x : Int)) := (World.cell?_of_block (hb.block g hgl)).trans cc1
        have cc2' : wr.cell? ⟨g, k * 2 + 1, none⟩ = some (.int .i64 (y : Int)) := (World.cell?_of_block (hb.block g hgl)).trans cc2
        obtain ⟨Z, hZ⟩ : ∃ Z, Z = sm (s.gp.take k) := ⟨_, rfl⟩
        have hstep : sm (s.gp.take (k + 1)) = Z + (y - x) := by rw [sm_step s.gp k (by rw [← HG.out]; exact hlt), ← hx, ← hy, ← hZ]
        have hle := HB2.out (k + 1)
        rw [hstep] at hle
        rw [← hZ]
        have w1 : IntKind.i64.wrap ((y : Int) - (x : Int)) = (y : Int) - (x : Int) := by rw [IntKind.wrap_i64]; omega
        have w2 : IntKind.i64.wrap ((M : Int) - (Z : Int) - ((y : Int) - (x : Int))) = (M : Int) - (Z : Int) - ((y : Int) - (x : Int)) := by rw [IntKind.wrap_i64]; have := HM.out; omega
        have HST : Hid _ := hstep
        have HXY : Hid (x ≤ y) := d1a
        clear hx hy hZ hstep hle d1a d1b cc1 cc2
        go_wp2
        go_roundw
        case rel => exact ⟨k + 1, by omega, by go_num, by rw [HST.out]; have := HXY.out; congr 1; omega, by first | exact hb.alloc hb.size _ | skip⟩
        case measure => simp [intOf]; omega
      · have hkG : k = G := by omega
        have hfin : s.gp.take k = s.gp := List.take_of_length_le (by rw [hkG, HG.out]; exact Nat.le_refl _)
        rw [hfin]
        clear hfin hlt
        go_wp2
        go_ret
        exact ⟨rfl, hb⟩

end H11
end Go.Proofs.Ytcoaghcmbhogjaa
