/-
  A datagram in the making, in memory: its block, its bytes' row, its holes' row, the map of the pieces taken.
-/
import Derived.Test.YtcoaghcmbhogjaaHSpec
import Derived.Test.YtcoaghcmbhogjaaPSplit
import Derived.Test.YtcoaghcmbhogjaaMixH
import Derived.Maps.OwnSet
import Derived.DeepKeys5
namespace Go.Proofs.Ytcoaghcmbhogjaa
open Go.RowKit Go.Maps
namespace H11

theorem Try.laidOut : laidOutB Try.prog = true := by kernel_rfl
theorem Try.rowP : decide (78 < Try.prog.types.size) = true := by kernel_rfl
theorem lawP : Keyed Try.prog 78 := Keyed.of_law (deep_law_laid Try.laidOut (m := 4) (by omega) (k := 78) (of_decide_eq_true Try.rowP) (by kernel_rfl) (by kernel_rfl))
theorem Try.cellsP : Try.prog.cellsOf 78 = 3 := by kernel_rfl
theorem Try.cellsI : Try.prog.cellsOf 3 = 1 := by kernel_rfl
theorem Try.cellsB : Try.prog.cellsOf 4 = 1 := by kernel_rfl
theorem Try.keyP : Try.prog.keyType 78 = true := by kernel_rfl
theorem Try.types2 : ∃ n, Try.prog.types.size = n + 1 := by
  have h : decide (0 < Try.prog.types.size) = true := by kernel_rfl
  have := of_decide_eq_true h
  exact ⟨Try.prog.types.size - 1, by omega⟩

/-- a piece's value -/
def kv (o n : Int) (more : Bool) : Value := .agg #[.int .i64 o, .int .i64 n, .bool more]
theorem kv_inj {o n o' n' : Int} {m m' : Bool} (h : kv o n m = kv o' n' m') : o = o' ∧ n = n' ∧ m = m' := by
  simp [kv] at h
  exact h
theorem kv_key (o n : Int) (m : Bool) (ho : 0 ≤ o ∧ o ≤ 65535) (hn : 0 ≤ n ∧ n ≤ 65535) : ∃ l, keyOf Try.prog 78 (kv o n m) = some l := by
  have w1 : (Lit.int .i64 o).wf = true := WalkArith.wf_i64 (by omega)
  have w2 : (Lit.int .i64 n).wf = true := WalkArith.wf_i64 (by omega)
  obtain ⟨N, hN⟩ := Try.types2
  unfold keyOf
  rw [Try.underlying78]
  simp only [Try.keyP, kv, Value.formed, Try.underlying78, Try.cellsP, Bool.true_and]
  rw [if_pos (show ((#[Value.int .i64 o, .int .i64 n, .bool m] : Array Value).size == 3) = true from rfl), hN]
  simp [Value.cells, Program.keyLits, Try.underlying78, Try.cellsP, Try.cellsI, Try.cellsB, Try.underlying3, Try.underlying4, w1, w2]

def gC (gs : List (Nat × Nat)) : List Value := gs.flatMap (fun g => [.int .i64 (g.1 : Int), .int .i64 (g.2 : Int)])
theorem gC_len (gs : List (Nat × Nat)) : (gC gs).length = gs.length * 2 := by
  induction gs with
  | nil => rfl
  | cons g r ih => simp only [gC, List.flatMap_cons, List.length_append, List.length_cons] at ih ⊢; rw [ih]; simp; omega
theorem gC_app (a b : List (Nat × Nat)) : gC (a ++ b) = gC a ++ gC b := by simp [gC]

structure HV where
  bv : Value
  gv : Value
  M : Nat
  D : DataW Unit

def HB (H : Nat) (v : HV) (x : Nat) : Prop := x = H ∨ x = v.M ∨ v.bv.ownBlock = some x ∨ v.gv.ownBlock = some x

structure HAt (w : World) (H : Nat) (s : HS) (v : HV) : Prop where
  c0 : w.cell? ⟨H, 0, none⟩ = some (.int .i64 s.mx)
  c1 : w.cell? ⟨H, 1, none⟩ = some (.int .i64 s.en)
  c2 : w.cell? ⟨H, 2, none⟩ = some v.bv
  c3 : w.cell? ⟨H, 3, none⟩ = some v.gv
  c4 : w.cell? ⟨H, 4, none⟩ = some (.map (some v.M))
  fz : ∀ j, w.frozen? ⟨H, j, none⟩ = false
  bo : w.ownsRow 0 5 1 v.bv s.bs.length ((toI s.bs).map (Value.int .u8))
  go : w.ownsRow 0 45 2 v.gv s.gp.length (gC s.gp)
  mo : w.ownsMap Try.prog 78 unitElem v.M s.tk.length v.D
  hs : ∀ (o n : Nat) (m : Bool) l, keyOf Try.prog 78 (kv o n m) = some l → (Maps.has v.D l = true ↔ (o, n, m) ∈ s.tk)
  nHM : H ≠ v.M
  nbH : v.bv.ownBlock ≠ some H
  nbM : v.bv.ownBlock ≠ some v.M
  ngH : v.gv.ownBlock ≠ some H
  ngM : v.gv.ownBlock ≠ some v.M
  nbg : ∀ x, v.bv.ownBlock = some x → v.gv.ownBlock ≠ some x

theorem map_lt {w : World} {P : Program} {k : TypeId} {R : Value → Option (DataW Unit × List MemPlace)} {b n : Nat} {D : DataW Unit} (h : w.ownsMap P k R b n D) : b < w.heap.size := by
  obtain ⟨es, clock, hb, _⟩ := h
  exact (Array.getElem?_eq_some_iff.1 hb).1
theorem map_ch {S : Nat → Prop} {w w' : World} {P : Program} {k : TypeId} {R : Value → Option (DataW Unit × List MemPlace)} {b n : Nat} {D : DataW Unit} (h : w.ownsMap P k R b n D) (c : Ch S w w') (hS : ¬ S b) : w'.ownsMap P k R b n D := by
  have hlt := map_lt h
  obtain ⟨es, clock, hb, r⟩ := h
  exact ⟨es, clock, by rw [c.block b hlt hS]; exact hb, r⟩

theorem HAt.lt {w : World} {H : Nat} {s : HS} {v : HV} (h : HAt w H s v) : ∀ x, HB H v x → x < w.heap.size := by
  rintro x (rfl | rfl | hx | hx)
  · exact World.block_lt_of_cell? w ⟨x, 0, none⟩ h.c0
  · exact map_lt h.mo
  · exact (h.bo.lt x hx).2
  · exact (h.go.lt x hx).2
theorem HAt.ch {T : Nat → Prop} {w w' : World} {H : Nat} {s : HS} {v : HV} (h : HAt w H s v) (k : Ch T w w') (hT : ∀ x, HB H v x → ¬ T x) : HAt w' H s v where
  c0 := k.cell h.c0 (hT H (.inl rfl))
  c1 := k.cell h.c1 (hT H (.inl rfl))
  c2 := k.cell h.c2 (hT H (.inl rfl))
  c3 := k.cell h.c3 (hT H (.inl rfl))
  c4 := k.cell h.c4 (hT H (.inl rfl))
  fz := fun j => (k.frozen (p := ⟨H, j, none⟩) (h.lt H (.inl rfl)) (hT H (.inl rfl))).trans (h.fz j)
  bo := k.owns h.bo (fun g hg => hT g (.inr (.inr (.inl hg))))
  go := k.owns h.go (fun g hg => hT g (.inr (.inr (.inr hg))))
  mo := map_ch h.mo k (hT _ (.inr (.inl rfl)))
  hs := h.hs
  nHM := h.nHM
  nbH := h.nbH
  nbM := h.nbM
  ngH := h.ngH
  ngM := h.ngM
  nbg := h.nbg
theorem HAt.below {w w' : World} {H : Nat} {s : HS} {v : HV} (h : HAt w H s v) (k : Below w.heap.size w w') : HAt w' H s v := h.ch (Ch.ofBelow (S := fun _ => False) k) (fun _ _ => id)

/-- a datagram whose blocks all lie in X -/
def Hl (X : Nat → Prop) (w : World) (H : Nat) (s : HS) : Prop := ∃ v, HAt w H s v ∧ ∀ x, HB H v x → X x
theorem Hl.mono {X Y : Nat → Prop} {w : World} {H : Nat} {s : HS} (h : Hl X w H s) (hXY : ∀ x, x < w.heap.size → X x → Y x) : Hl Y w H s := by
  obtain ⟨v, h1, h2⟩ := h
  exact ⟨v, h1, fun x hx => hXY x (h1.lt x hx) (h2 x hx)⟩
theorem Hl.ch {X T : Nat → Prop} {w w' : World} {H : Nat} {s : HS} (h : Hl X w H s) (k : Ch T w w') (hT : ∀ x, x < w.heap.size → X x → ¬ T x) : Hl X w' H s := by
  obtain ⟨v, h1, h2⟩ := h
  exact ⟨v, h1.ch k (fun x hx => hT x (h1.lt x hx) (h2 x hx)), h2⟩
theorem Hl.below {X : Nat → Prop} {w w' : World} {H : Nat} {s : HS} (h : Hl X w H s) (k : Below w.heap.size w w') : Hl X w' H s := h.ch (Ch.ofBelow (S := fun _ => False) k) (fun _ _ _ => id)
theorem Hl.drew {X : Nat → Prop} {w : World} {H : Nat} {s : HS} (h : Hl X w H s) : Hl X w.drew H s := h.ch (Ch.refl (fun _ => False) w).drew (fun _ _ _ => id)

/-- the cells of one hole -/
theorem gC_cell {w : World} {g n c : Nat} {gs : List (Nat × Nat)} (h : w.ownsRow 0 45 2 (.slice (some ⟨g, 0, none⟩) n c) n (gC gs)) (k : Nat) (hk : k < gs.length) :
    w.cell? ⟨g, k * 2, none⟩ = some (.int .i64 ((gs.getD k (0, 0)).1 : Int)) ∧ w.cell? ⟨g, k * 2 + 1, none⟩ = some (.int .i64 ((gs.getD k (0, 0)).2 : Int)) := by
  have e : ∀ (gs : List (Nat × Nat)) k, k < gs.length → (gC gs)[k * 2]? = some (.int .i64 ((gs.getD k (0, 0)).1 : Int)) ∧ (gC gs)[k * 2 + 1]? = some (.int .i64 ((gs.getD k (0, 0)).2 : Int)) := by
    intro gs
    induction gs with
    | nil => intro k hk; simp at hk
    | cons g r ih =>
      intro k hk
      cases k with
      | zero => exact ⟨rfl, rfl⟩
      | succ k =>
        obtain ⟨i1, i2⟩ := ih k (by simpa using hk)
        rw [show (k + 1) * 2 = k * 2 + 1 + 1 by omega]
        exact ⟨i1, i2⟩
  obtain ⟨e1, e2⟩ := e gs k hk
  have h1 := h.cells (g := g) rfl (k * 2) _ e1
  have h2 := h.cells (g := g) rfl (k * 2 + 1) _ e2
  rw [Addr.add_lit] at h1 h2
  simp only [Nat.zero_add] at h1 h2
  exact ⟨h1, h2⟩

end H11
end Go.Proofs.Ytcoaghcmbhogjaa
