/-
  The laws of package hole that play with one datagram: what they hold on to.
-/
import Derived.Test.YtcoaghcmbhogjaaHOpen
namespace Go.Proofs.Ytcoaghcmbhogjaa
open Go.RowKit Go.Maps
namespace H11

structure Own1 (W : World) (H m k : Nat) (s : HS) (v : HV) (wr : World) : Prop where
  hat : HAt wr H s v
  inv : Inv s
  mx : s.mx = m
  tk : s.tk.length ≤ k
  lo : ∀ x, HB H v x → W.heap.size ≤ x
  bel : Below W.heap.size W wr
theorem Own1.below {W : World} {H m k : Nat} {s : HS} {v : HV} {wr w' : World} (h : Own1 W H m k s v wr) (hb : Below wr.heap.size wr w') : Own1 W H m k s v w' :=
  ⟨h.hat.below hb, h.inv, h.mx, h.tk, h.lo, h.bel.trans (hb.mono h.bel.size)⟩
theorem Own1.moved {W : World} {H m k k' : Nat} {s s' : HS} {v : HV} {wr w' : World} (h : Own1 W H m k s v wr) (hm : Moved wr H v w' s') (hi : Inv s') (hx : s'.mx = m) (ht : s'.tk.length ≤ k') : ∃ v', Own1 W H m k' s' v' w' := by
  obtain ⟨v', h1, h2, h3⟩ := hm
  refine ⟨v', h1, hi, hx, ht, ?_, h.bel.trans (h3.below h.lo h.bel.size)⟩
  intro x hx
  rcases h2 x hx with q | q
  · exact h.lo x q
  · exact Nat.le_trans h.bel.size q
/-- Put of a row made since -/
theorem Own1.put {W : World} {H m k : Nat} {s : HS} {v : HV} {wr : World} (h : Own1 W H m k s v wr) (hk : k ≤ 1000) (off : Int) (d : List Nat) (ua : Option Addr) (uc : Nat) (more : Bool) (h8 : ∀ x ∈ d, x < 256)
    (ho : wr.ownsRow 0 5 1 (.slice ua d.length uc) d.length ((toI d).map (Value.int .u8))) (hn : ∀ q, (Value.slice ua d.length uc).ownBlock = some q → ¬ HB H v q) :
    Calls Try.prog 13 #[.pointer (some ⟨H, 0, none⟩), .int .i64 off, .slice ua d.length uc, .bool more] wr fun r w' => r = .returned (.tuple #[.agg #[.int .i64 (pN s off d more : Nat), .int .i64 (pO s off d more), .bool (pM s off d more)], .int .i64 (rf s off d.length more)]) ∧ Ch (HB H v) wr w' ∧ ∃ v', Own1 W H m (k + 1) (pS s off d more) v' w' := by
  obtain ⟨a', c', e1, hsg, hsl, hcl, _⟩ := owns_seg ho (k := .u8)
  simp only [Value.slice.injEq, true_and] at e1
  obtain ⟨rfl, rfl⟩ := e1
  have ht := h.tk
  refine (put_u wr H s v h.hat h.inv off d ua uc more h8 (by omega) hcl hsg ?_).mono ?_
  · intro x _ hx
    exact hn x.block (by rw [hx]; rfl)
  · rintro e w' ⟨rfl, hm⟩
    refine ⟨rfl, ?_, h.moved hm (pS_inv h.inv off d more h8) ((pS_mx s off d more).trans h.mx) (by have := pS_tk s off d more; omega)⟩
    obtain ⟨_, _, _, h3⟩ := hm
    exact h3

theorem Ris.next {hi : Nat} : ∀ {gs : List (Nat × Nat)} {lo : Nat}, Ris lo gs hi → ∀ k, k + 1 < gs.length → (gs.getD k (0, 0)).2 < (gs.getD (k + 1) (0, 0)).1
  | [], _, _, k, hk => by simp at hk
  | g :: r, lo, ⟨h1, h2, h3, h4⟩, k, hk => by
    cases k with
    | zero =>
      cases r with
      | nil => simp at hk
      | cons g' r' => obtain ⟨k1, _⟩ := h4; simp; omega
    | succ k => simpa using Ris.next h4 k (by simpa using hk)

/-- a row of holes that was handed out, to be read -/
theorem row_gap {w : World} {base n c : Nat} {ua : Option Addr} {gs : List (Nat × Nat)} (h : w.ownsRow base 45 2 (.slice ua n c) n (gC gs)) (hn : gs.length = n) (hp : 0 < n) : ∃ g, ua = some ⟨g, 0, none⟩ ∧ base ≤ g ∧ n ≤ c ∧ ∀ k, k < n → w.cell? ⟨g, k * 2, none⟩ = some (.int .i64 ((gs.getD k (0, 0)).1 : Int)) ∧ w.cell? ⟨g, k * 2 + 1, none⟩ = some (.int .i64 ((gs.getD k (0, 0)).2 : Int)) := by
  rcases h.2 with ⟨_, e2⟩ | ⟨g, cap, cur, e1, e2, e3, e4, _⟩
  · omega
  · simp only [Value.slice.injEq, true_and] at e1
    obtain ⟨rfl, rfl⟩ := e1
    exact ⟨g, rfl, e2, e4, fun k hk => gC_cell (owns_mono h (Nat.zero_le _)) k (by omega)⟩
/-- the cells of a piece that came in -/
theorem pcs_at {W : World} {a : Option Addr} {ops : List PcV} (h : PcsU W a ops) (i : Nat) (hi : i < ops.length) : ∃ b off, a = some ⟨b, off, none⟩ ∧ b < W.heap.size ∧ PcOk W ops[i] ∧ W.cell? ⟨b, off + i * 3, none⟩ = some (.int .i64 ops[i].off) ∧ W.cell? ⟨b, off + i * 3 + 1, none⟩ = some (.slice ops[i].a ops[i].bs.length ops[i].cap) ∧ W.cell? ⟨b, off + i * 3 + 2, none⟩ = some (.bool ops[i].more) := by
  rcases h with rfl | ⟨b, off, ha, hlt, hc⟩
  · simp at hi
  · obtain ⟨k1, k2⟩ := hc i ops[i] (List.getElem?_eq_getElem hi)
    exact ⟨b, off, ha, hlt, k1, k2 0 (by omega), k2 1 (by omega), k2 2 (by omega)⟩
end H11
end Go.Proofs.Ytcoaghcmbhogjaa
