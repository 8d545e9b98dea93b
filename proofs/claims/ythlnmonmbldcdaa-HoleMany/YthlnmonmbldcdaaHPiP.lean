/-
  HolePieces: what its loop holds on to.
-/
import Derived.Test.YthlnmonmbldcdaaHParts
namespace Go.Proofs.Ythlnmonmbldcdaa
open Go.RowKit Go.Maps
namespace H11

/-- how many have come -/
def cB (C : Nat → Bool) : Nat → Nat
  | 0 => 0
  | n + 1 => cB C n + (if C n = true then 1 else 0)
theorem cB_le (C : Nat → Bool) : ∀ n, cB C n ≤ n
  | 0 => Nat.le_refl _
  | n + 1 => by have := cB_le C n; simp only [cB]; split <;> omega
theorem cB_all (C : Nat → Bool) : ∀ n, cB C n = n ↔ ∀ k, k < n → C k = true
  | 0 => by simp [cB]
  | n + 1 => by
    have ih := cB_all C n
    have hle := cB_le C n
    simp only [cB]
    constructor
    · intro h k hk
      by_cases c : C n = true
      · rw [if_pos c] at h
        by_cases e : k = n
        · rw [e]; exact c
        · exact ih.1 (by omega) k (by omega)
      · rw [if_neg c] at h; omega
    · intro h
      rw [if_pos (h n (by omega)), ih.2 (fun k hk => h k (by omega))]
theorem cB_congr {C C' : Nat → Bool} : ∀ n, (∀ k, k < n → C k = C' k) → cB C n = cB C' n
  | 0, _ => rfl
  | n + 1, h => by simp only [cB]; rw [cB_congr n (fun k hk => h k (by omega)), h n (by omega)]
theorem cB_upd (C : Nat → Bool) (k : Nat) (hc : C k = false) : ∀ n, k < n → cB (updB C k) n = cB C n + 1
  | 0, h => by omega
  | n + 1, h => by
    simp only [cB]
    by_cases e : k = n
    · subst e
      rw [updB_same, cB_congr (C := updB C k) (C' := C) k (fun j hj => updB_other C k j (by omega)), hc]
      simp
    · rw [cB_upd C k hc n (by omega), updB_other C k n (fun q => e q.symm)]
      omega
theorem updB_id (C : Nat → Bool) (k : Nat) (h : C k = true) : updB C k = C := by
  funext j
  by_cases e : j = k
  · rw [e, updB_same, h]
  · rw [updB_other _ _ _ e]

/-- what Put answers of the k-th piece -/
theorem PSt.put {D ns : List Nat} {C : Nat → Bool} {s : HS} (h : PSt D ns C s) (hc : Cut ns D.length) (hD : D.length ≤ 65535) (h8 : ∀ x, x ∈ D → x < 256) {k : Nat} (hk : k < ns.length) {o n : Nat} {d : List Nat} {more : Bool} (ho : o = ofs ns k) (hn : n = ns.getD k 0) (hd : d = (D.drop o).take n) (hm : more = decide (o + n < D.length)) :
    d.length = n ∧ rf s (o : Int) d.length more = 0 ∧ pN s (o : Int) d more = (if C k = true then 0 else n) ∧ pO s (o : Int) d more = ((n : Int) - ((if C k = true then 0 else n : Nat) : Int)) ∧ pM s (o : Int) d more = C k ∧ PSt D ns (updB C k) (pS s (o : Int) d more) := by
  have hs := ofs_succ ns k hk
  have hmm : more = decide (k + 1 < ns.length) := by
    rw [hm, ho, hn, ← hs]
    congr 1
    apply propext
    constructor
    · intro q
      apply Classical.byContradiction
      intro q2
      have := hc.last k (by omega)
      omega
    · exact fun q => hc.lt k q
  have hdl : d.length = n := by rw [hd, ho, hn]; exact hc.dl hk
  have hr : rf s (o : Int) d.length more = 0 := by rw [hdl, ho, hn, hmm]; exact h.rf0 hc hD hk
  have hN : fN o (o + n) s.gp = if C k = true then 0 else n := by rw [ho, hn]; exact h.cnt hc hk
  obtain ⟨q1, q2⟩ := h.step hc hD hk h8
  have hp : pS s (o : Int) d more = pt s (ofs ns k) ((D.drop (ofs ns k)).take (ns.getD k 0)) (decide (k + 1 < ns.length)) := by
    unfold pS
    rw [if_pos hr, Int.toNat_natCast, hd, ho, hn, hmm]
  refine ⟨hdl, hr, ?_, ?_, ?_, by rw [hp]; exact q1⟩
  · unfold pN
    rw [if_pos hr, Int.toNat_natCast, hdl, hN]
  · unfold pO
    rw [if_pos hr, Int.toNat_natCast, hdl, hN]
  · unfold pM
    rw [decide_eq_true hr, Bool.true_and, Int.toNat_natCast, hdl]
    have e1 : decide (d = ((pt s o d more).bs.drop o).take n) = true := by
      apply decide_eq_true
      have e2 : pt s o d more = pt s (ofs ns k) ((D.drop (ofs ns k)).take (ns.getD k 0)) (decide (k + 1 < ns.length)) := by rw [hd, ho, hn, hmm]
      rw [e2, hd, ho, hn]
      exact q2
    rw [e1, Bool.and_true, ho, hn, hmm]
    have := h.tk k hk
    cases hck : C k with
    | true => exact decide_eq_true (this.2 hck)
    | false => exact decide_eq_false (fun q => by have := this.1 q; rw [hck] at this; cases this)

def cmC (C : Nat → Bool) (G : Nat) : List Value := (List.range G).map (fun j => Value.bool (C j))

/-- the whole -/
structure HP1 (W : World) (X : Nat → Prop) (B2 db dof dc : Nat) (D ns : List Nat) (pb pc cb cc H k : Nat) (C : Nat → Bool) (s : HS) (v : HV) (wr : World) : Prop where
  hat : HAt wr H s v
  pst : PSt D ns C s
  tk : s.tk.length ≤ k
  lo : ∀ x, HB H v x → X x
  sz : B2 ≤ wr.heap.size
  bel : Below W.heap.size W wr
  dat : Seg .u8 wr (some ⟨db, dof, none⟩) (toI D)
  pcs : wr.ownsRow 0 37 3 (.slice (some ⟨pb, 0, none⟩) ns.length pc) ns.length (pcC db dof dc D.length 0 ns)
  com : wr.ownsRow 0 4 1 (.slice (some ⟨cb, 0, none⟩) ns.length cc) ns.length (cmC C ns.length)
/-- what stands throughout -/
structure HPX (W : World) (X : Nat → Prop) (B2 db pb cb : Nat) (D ns : List Nat) (dc : Nat) : Prop where
  x1 : ∀ x, X x → W.heap.size ≤ x
  x2 : ∀ x, B2 ≤ x → X x
  xd : ¬ X db
  xp : ¬ X pb
  xc : ¬ X cb
  cW : W.heap.size ≤ cb
  cd : cb ≠ db
  cp : cb ≠ pb
  cut : Cut ns D.length
  d1 : 1 ≤ D.length
  d2 : D.length ≤ 4096
  d8 : ∀ x, x ∈ D → x < 256
  dc : D.length ≤ dc
  l1 : 0 < ns.length
  l2 : ns.length ≤ 91

section
variable {W : World} {X : Nat → Prop} {B2 db dof dc : Nat} {D ns : List Nat} {pb pc cb cc H k : Nat} {C : Nat → Bool} {s : HS} {v : HV} {wr : World} (h : HP1 W X B2 db dof dc D ns pb pc cb cc H k C s v wr)
include h
theorem HP1.below {w' : World} (hb : Below wr.heap.size wr w') : HP1 W X B2 db dof dc D ns pb pc cb cc H k C s v w' := by
  have c := Ch.ofBelow (S := fun _ => False) hb
  exact ⟨h.hat.below hb, h.pst, h.tk, h.lo, Nat.le_trans h.sz hb.size, h.bel.trans (hb.mono h.bel.size), h.dat.old hb, c.owns h.pcs (fun _ _ => id), c.owns h.com (fun _ _ => id)⟩
theorem HP1.piece (j : Nat) (hj : j < ns.length) : wr.cell? ⟨pb, j * 3, none⟩ = some (.int .i64 (ofs ns j : Nat)) ∧ wr.cell? ⟨pb, j * 3 + 1, none⟩ = some (.slice (some ⟨db, dof + ofs ns j, none⟩) (ns.getD j 0) (dc - ofs ns j)) ∧ wr.cell? ⟨pb, j * 3 + 2, none⟩ = some (.bool (decide (ofs ns j + ns.getD j 0 < D.length))) := by
  have hc := fun i u => h.pcs.cells (g := pb) rfl i u
  have e := fun i (hi : i < 3) => pcC_at db dof dc D.length ns 0 j i hj hi
  have k0 := hc (j * 3 + 0) _ ((e 0 (by omega)).trans rfl)
  have k1 := hc (j * 3 + 1) _ ((e 1 (by omega)).trans rfl)
  have k2 := hc (j * 3 + 2) _ ((e 2 (by omega)).trans rfl)
  rw [Addr.add_lit] at k0 k1 k2
  simp only [Nat.zero_add, Nat.add_zero] at k0 k1 k2
  exact ⟨k0, k1, k2⟩
theorem HP1.came (j : Nat) (hj : j < ns.length) : wr.cell? ⟨cb, j, none⟩ = some (.bool (C j)) ∧ wr.frozen? ⟨cb, j, none⟩ = false := by
  have k0 := h.com.cells (g := cb) rfl j (.bool (C j)) (by simp [cmC, hj])
  rw [Addr.add_lit, Nat.zero_add] at k0
  refine ⟨k0, ?_⟩
  rcases h.com.2 with ⟨e1, _⟩ | ⟨g, cap, cur, e1, _, e3, _⟩
  · simp at e1
  · simp only [Value.slice.injEq, Option.some.injEq, Addr.mk.injEq, and_true] at e1
    obtain ⟨rfl, _, _⟩ := e1
    simp [World.frozen?, e3]
/-- Put of the j-th piece -/
theorem HP1.put (x : HPX W X B2 db pb cb D ns dc) (hk : k ≤ 1000) (j : Nat) (hj : j < ns.length) {o n : Nat} {more : Bool} (ho : o = ofs ns j) (hn : n = ns.getD j 0) (hm : more = decide (o + n < D.length)) :
    Calls Try.prog 13 #[.pointer (some ⟨H, 0, none⟩), .int .i64 (o : Int), .slice (some ⟨db, dof + o, none⟩) n (dc - o), .bool more] wr fun r w' => r = .returned (.tuple #[.agg #[.int .i64 ((if C j = true then 0 else n : Nat) : Int), .int .i64 ((n : Int) - ((if C j = true then 0 else n : Nat) : Int)), .bool (C j)], .int .i64 0]) ∧ Ch X wr w' ∧
      ∃ s' v', HAt w' H s' v' ∧ PSt D ns (updB C j) s' ∧ s'.tk.length ≤ k + 1 ∧ (∀ x, HB H v' x → X x) := by
  obtain ⟨d, hd⟩ : ∃ d, d = (D.drop o).take n := ⟨_, rfl⟩
  obtain ⟨p1, p2, p3, p4, p5, p6⟩ := h.pst.put x.cut (by have := x.d2; omega) x.d8 hj ho hn hd hm
  have hle := x.cut.le (j + 1)
  rw [ofs_succ ns j hj, ← ho, ← hn] at hle
  have ht := h.tk
  have hdc := x.dc
  have hsg : Seg .u8 wr (some ⟨db, dof + o, none⟩) (toI d) := by
    have := h.dat.part o n (by rw [toI_len]; exact hle)
    rw [toI_drop, toI_take, ← hd] at this
    simpa [Addr.add_lit] using this
  have := put_u wr H s v h.hat h.pst.inv (o : Int) d (some ⟨db, dof + o, none⟩) (dc - o) more (fun z hz => x.d8 z (by rw [hd] at hz; exact List.mem_of_mem_drop (List.mem_of_mem_take hz))) (by omega) (by rw [p1]; omega) hsg (by
    intro y _ hy q
    simp only [Option.some.injEq] at hy
    subst hy
    exact x.xd (h.lo _ q))
  rw [p2, p3, p4, p5, p1] at this
  refine this.mono ?_
  rintro e w' ⟨rfl, v', a1, a2, a3⟩
  refine ⟨rfl, a3.mono (fun y _ q => h.lo y q), pS s (o : Int) d more, v', a1, p6, by have := pS_tk s (o : Int) d more; omega, ?_⟩
  intro y hy
  rcases a2 y hy with q | q
  · exact h.lo y q
  · exact x.x2 y (Nat.le_trans h.sz q)
end
/-- behind the store into come -/
theorem HP1.next {W : World} {X : Nat → Prop} {B2 db dof dc : Nat} {D ns : List Nat} {pb pc cb cc H k : Nat} {C : Nat → Bool} {s : HS} {v : HV} {wr : World} (h : HP1 W X B2 db dof dc D ns pb pc cb cc H k C s v wr) (x : HPX W X B2 db pb cb D ns dc) {w' : World} {s' : HS} {v' : HV} (c : Ch X wr w') {j : Nat} (hj : j < ns.length) (h1 : HAt w' H s' v') (h2 : PSt D ns (updB C j) s') (h3 : s'.tk.length ≤ k + 1) (h4 : ∀ x, HB H v' x → X x) :
    HP1 W X B2 db dof dc D ns pb pc cb cc H (k + 1) (updB C j) s' v' (w'.setCell ⟨cb, j, none⟩ (.bool true)) ∧ w'.cell? ⟨cb, j, none⟩ = some (.bool (C j)) ∧ w'.frozen? ⟨cb, j, none⟩ = false := by
  have k2 : Ch (fun q => q = cb) w' (w'.setCell ⟨cb, j, none⟩ (.bool true)) := (Ch.refl _ w').set _ _ rfl
  have hcb : cb < wr.heap.size := by
    have := (h.came j hj).1
    exact World.block_lt_of_cell? wr _ this
  have hcm : w'.ownsRow 0 4 1 (.slice (some ⟨cb, 0, none⟩) ns.length cc) ns.length (cmC C ns.length) := c.owns h.com (fun g hg q => by simp [Value.ownBlock] at hg; subst hg; exact x.xc q)
  refine ⟨⟨h1.ch k2 (fun y hy e => x.xc (by rw [← e]; exact h4 y hy)), h2, h3, h4, by simpa using Nat.le_trans h.sz c.size, ?_, ?_, ?_, ?_⟩, c.cell (h.came j hj).1 x.xc, ?_⟩
  · have b1 : Below W.heap.size W w' := h.bel.trans (c.below x.x1 h.bel.size)
    exact b1.trans (k2.below (fun q e => by have e' : q = cb := e; rw [e']; exact x.cW) b1.size)
  · refine k2.seg (c.seg h.dat (fun y _ hy q => ?_)) (fun y _ hy e => ?_)
    · simp only [Option.some.injEq] at hy
      subst hy
      exact x.xd q
    · simp only [Option.some.injEq] at hy
      subst hy
      exact x.cd e.symm
  · refine k2.owns (c.owns h.pcs (fun g hg q => ?_)) (fun g hg e => ?_)
    · simp [Value.ownBlock] at hg; subst hg; exact x.xp q
    · simp [Value.ownBlock] at hg; subst hg; exact x.cp e.symm
  · have hst := (hcm.stored j (.bool true)).1
    have e1 : (cmC C ns.length).set j (.bool true) = cmC (updB C j) ns.length := by
      apply List.ext_getElem?
      intro i
      simp only [cmC, List.getElem?_set, List.length_map, List.length_range, List.getElem?_map]
      by_cases e : j = i
      · subst e
        rw [if_pos rfl, if_pos hj, List.getElem?_range hj]
        simp [updB_same]
      · rw [if_neg e]
        by_cases hi : i < ns.length
        · rw [List.getElem?_range hi]
          simp [updB_other C j i (fun q => e q.symm)]
        · rw [List.getElem?_eq_none (by simp; omega)]
          rfl
    rw [e1] at hst
    exact hst
  · exact (c.frozen (p := ⟨cb, j, none⟩) hcb x.xc).trans (h.came j hj).2
end H11
end Go.Proofs.Ythlnmonmbldcdaa
