/-
  Package hole: append of holes, Gaps, Held.
-/
import Derived.Test.YtcoaghcmbhogjaaHOps2
namespace Go.Proofs.Ytcoaghcmbhogjaa
open Go.RowKit Go.Maps
namespace H11

theorem gC_one (gs : List (Nat × Nat)) : ∀ u ∈ gC gs, u.oneCell' = true := by
  intro u hu
  simp only [gC, List.mem_flatMap, List.mem_cons, List.not_mem_nil, or_false] at hu
  obtain ⟨g, _, rfl | rfl⟩ := hu <;> rfl

/-- append(v, x...) of holes -/
theorem append_gaps {w : World} {ops : Array Oper} {rest : List Oper} {o : Oper} {a : Act} {Q : Exit → Act → World → Prop} (hgd : o.guard = none) (s x : Operand)
    (ho : o.op = .call { callee := .builtin .append, args := #[s, x], argTypes := #[43, 43] })
    (base : Nat) (v : Value) (n : Nat) (xs : List Value) (hs : a.eval s = v) (hown : w.ownsRow base 45 2 v n xs) (ad : Option Addr) (m c : Nat) (gs : List (Nat × Nat)) (hx : a.eval x = .slice ad m c) (hm : gs.length = m)
    (h0 : ad = none → m = 0) (hc : ∀ b, ad = some b → ∀ j u, (gC gs)[j]? = some u → w.cell? (b.add j) = some u) (hl : n + m ≤ 1000000) (hbase : base ≤ w.heap.size)
    (h : ∀ v' w', w'.ownsRow base 45 2 v' (n + m) (xs ++ gC gs) → w.grownBy w' v.ownBlock → (v'.ownBlock = v.ownBlock ∨ v'.ownBlock = some w.heap.size) → wpList Try.prog ops Q rest (a.put o.dst v') w') : wpList Try.prog ops Q (o :: rest) a w := by
  obtain ⟨i0, hi, hz0, hz1, hz2⟩ := info_parts Try.infoGap
  cases ad with
  | none =>
    obtain rfl := h0 rfl
    have hg : gs = [] := List.eq_nil_of_length_eq_zero hm
    subst hg
    refine wpList_plain hgd fun K hK => ?_
    have hrun := run_append_nil (P := Try.prog) (w := w) base 43 o.type 45 i0 2 Try.underlying43 hi v n c xs hown
    unfold Oper.wp
    simp [execOp, ho, resolve, invoke, builtin, hs, hx, hrun, Result.andThen]
    exact hK _ _ (h v w (by simpa [gC] using hown) ⟨rfl, rfl, rfl, Nat.le_refl _, fun _ _ _ => rfl⟩ (.inl rfl))
  | some b =>
    refine wpList_append_own_at w hgd s x 43 ho base 45 i0 _ 2 16 Try.underlying43 hi hz0 hz1 hz2 rfl (by decide) v n xs hs hown b m c (gC gs) hx (by rw [gC_len, hm]) (hc b rfl) (gC_one gs) (by unfold maxLen; omega) (by omega) hbase ?_
    intro v' w' k1 k2 _ k3
    exact h v' w' k1 k2 k3

/-- the holes' row, to be read -/
theorem HAt.gaps {w : World} {H : Nat} {s : HS} {v : HV} (h : HAt w H s v) : ∃ ga gc, v.gv = .slice ga s.gp.length gc ∧ (ga = none → s.gp.length = 0) ∧ (∀ b, ga = some b → ∃ g, b = ⟨g, 0, none⟩ ∧ v.gv.ownBlock = some g) ∧ s.gp.length ≤ gc ∧ ∀ b, ga = some b → ∀ j u, (gC s.gp)[j]? = some u → w.cell? (b.add j) = some u := by
  rcases h.go.2 with ⟨e1, e2⟩ | ⟨g, cap, cur, e1, e2, e3, e4, e5, e6, e7⟩
  · refine ⟨none, 0, by rw [e1, e2], fun _ => e2, fun b hb => by simp at hb, by omega, fun b hb => by simp at hb⟩
  · refine ⟨some ⟨g, 0, none⟩, cap, e1, fun k => by simp at k, fun b hb => ?_, e4, fun b hb => ?_⟩
    · simp at hb
      exact ⟨g, hb.symm, by rw [e1]; rfl⟩
    · simp at hb
      subst hb
      have ho := h.go
      rw [e1] at ho
      exact ho.cells (g := g) rfl

set_option maxRecDepth 100000 in
set_option maxHeartbeats 1600000 in
theorem gaps_any (w : World) (H : Nat) (s : HS) (v : HV) (h : HAt w H s v) (hl : s.gp.length ≤ 65535) :
    Calls Try.prog 17 #[.pointer (some ⟨H, 0, none⟩)] w fun r w' => ∃ u, r = .returned u ∧ w'.ownsRow w.heap.size 45 2 u s.gp.length (gC s.gp) ∧ Below w.heap.size w w' := by
  obtain ⟨ga, gc, hgv, g0, _, _, gcl⟩ := h.gaps
  have c3 := h.c3
  rw [hgv] at c3
  obtain ⟨G, hG⟩ : ∃ G, G = s.gp.length := ⟨_, rfl⟩
  rw [← hG] at c3 g0 hl ⊢
  have HG : Hid (G = s.gp.length) := hG
  clear hgv hG h
  go_enter Try.func17, Try.ntmps17
  go_wp2_with (first | (at_builtin; refine append_gaps rfl (.const (.slice none 0 0)) (.tmp 6) rfl w.heap.size (.slice none 0 0) 0 [] rfl (World.ownsRow_nil _ _ _ _) ga G gc s.gp rfl HG.out.symm g0 gcl (by omega) (Nat.le_refl _) ?_))
  intro u w1 ho1 hg1 _
  have hb1 : Below w.heap.size w w1 := (Below.refl _ _).grown hg1 (Nat.le_refl _) (by intro k hk; simp [Value.ownBlock] at hk)
  obtain ⟨ua, uc, rfl⟩ := owns_shape ho1
  clear hg1
  go_wp2
  go_ret
  exact ⟨_, rfl, by simpa using ho1, hb1⟩

end H11
end Go.Proofs.Ytcoaghcmbhogjaa
