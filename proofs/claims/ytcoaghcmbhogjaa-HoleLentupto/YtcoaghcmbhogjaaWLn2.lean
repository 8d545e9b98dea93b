/-
  HoleLent: the rows of bytes and of holes, one by one more; behind them the rows of holes alone, marked and lengthened.
-/
import Derived.Test.YtcoaghcmbhogjaaWLn1
namespace Go.Proofs.Ytcoaghcmbhogjaa.H11
open Go.RowKit Go.Maps
theorem HLn.ch {W : World} {P5 P7 : Nat} {e1 e2 : Ent} {S : Nat → Prop} {w w' : World} (h : HLn W P5 P7 e1 e2 w) (c : Ch S w w') (hW : ∀ x, S x → W.heap.size ≤ x) (hS : ∀ x, EB e1 x ∨ EB e2 x ∨ x = P5 ∨ x = P7 → ¬ S x) : HLn W P5 P7 e1 e2 w' :=
  ⟨h.bel.trans (c.below hW h.bel.size), h.ok1.ch c (fun x hx => hS x (.inl hx)), h.ok2.ch c (fun x hx => hS x (.inr (.inl hx))), h.lo1, h.lo2, h.dis, h.p5.ch c (hS _ (.inr (.inr (.inl rfl)))), h.p7.ch c (hS _ (.inr (.inr (.inr rfl)))), h.n5, h.n7⟩
structure LQ (W : World) (B P5 P7 : Nat) (e ez : Ent) (ps : List Ap.Part) (gs : List Value) (w : World) : Prop where
  ln : HLn W P5 P7 e ez w
  fam : Ap.Fam w B ps
  each : ∀ g, g ∈ gs → w.ownsRow B 45 2 g e.s.gp.length (gC e.s.gp)
  gd : gs.Pairwise Ap.R
  old : ∀ x, EB e x ∨ EB ez x ∨ x = P5 ∨ x = P7 → x < B
  hB : W.heap.size ≤ B ∧ B ≤ w.heap.size
section
variable {W : World} {B P5 P7 : Nat} {e ez : Ent}
theorem LS.lq {k : Nat} {lv gv : Value} {ps : List Ap.Part} {gs : List Value} {w : World} (h : LS W B P5 P7 e ez k lv gv ps gs w) : LQ W B P5 P7 e ez ps gs w := ⟨h.ln, h.fam, h.each, h.gd, h.old, h.hB⟩
theorem LQ.ls {k : Nat} {lv gv : Value} {ps : List Ap.Part} {gs : List Value} {w : World} (h : LQ W B P5 P7 e ez ps gs w) (lr : w.ownsRow B 22 1 lv (3 * k) (ps.map Ap.Part.val)) (gr : w.ownsRow B 43 1 gv k gs) : LS W B P5 P7 e ez k lv gv ps gs w := ⟨h.ln, lr, gr, h.fam, h.each, h.gd, h.old, h.hB⟩
theorem LQ.ch {ps : List Ap.Part} {gs : List Value} {S : Nat → Prop} {w w' : World} (h : LQ W B P5 P7 e ez ps gs w) (c : Ch S w w') (hS : ∀ x, S x → B ≤ x) (hp : ∀ p, p ∈ ps → ∀ x, p.val.ownBlock = some x → ¬ S x) (hg : ∀ g, g ∈ gs → ∀ x, g.ownBlock = some x → ¬ S x) : LQ W B P5 P7 e ez ps gs w' :=
  ⟨h.ln.ch c (fun x q => Nat.le_trans h.hB.1 (hS x q)) (fun x hx q => by have h1 := h.old x hx; have h2 := hS x q; omega), ⟨fun p hp' => ⟨c.owns (h.fam.own p hp').1 (hp p hp'), (h.fam.own p hp').2⟩, h.fam.dis⟩, fun g hg' => c.owns (h.each g hg') (hg g hg'), h.gd, h.old, h.hB.1, Nat.le_trans h.hB.2 c.size⟩
theorem LQ.below {ps : List Ap.Part} {gs : List Value} {w w' : World} (h : LQ W B P5 P7 e ez ps gs w) (hb : Below w.heap.size w w') : LQ W B P5 P7 e ez ps gs w' :=
  h.ch (Ch.ofBelow (S := fun _ => False) hb) (fun _ q => q.elim) (fun _ _ _ _ => id) (fun _ _ _ _ => id)
theorem LQ.addP {ps : List Ap.Part} {gs : List Value} {w w' : World} (h : LQ W B P5 P7 e ez ps gs w) (hb : Below w.heap.size w w') (p : Ap.Part) (ho : Ap.OwnB w' w.heap.size p.val p.l.length p.l) (hl : p.l.length ≤ 65535) : LQ W B P5 P7 e ez (ps ++ [p]) gs w' :=
  have h' := h.below hb
  ⟨h'.ln, h.fam.add hb h.hB.2 p ho hl, h'.each, h'.gd, h'.old, h'.hB⟩
theorem LQ.addG {ps : List Ap.Part} {gs : List Value} {w w' : World} (h : LQ W B P5 P7 e ez ps gs w) (hb : Below w.heap.size w w') (g : Value) (ho : w'.ownsRow w.heap.size 45 2 g e.s.gp.length (gC e.s.gp)) : LQ W B P5 P7 e ez ps (gs ++ [g]) w' := by
  have h' := h.below hb
  refine ⟨h'.ln, h'.fam, ?_, ?_, h'.old, h'.hB⟩
  · intro x hx
    rcases List.mem_append.1 hx with q | q
    · exact h'.each x q
    · rw [List.mem_singleton.1 q]; exact owns_mono ho h.hB.2
  · refine List.pairwise_append.2 ⟨h.gd, List.pairwise_singleton _ _, ?_⟩
    intro a ha b hb'
    rw [List.mem_singleton.1 hb']
    cases hv : a.ownBlock with
    | none => exact .inl hv
    | some q =>
      refine .inr (fun k => ?_)
      have h1 := ((h.each a ha).lt q hv).2
      have h2 := (ho.lt q (by rw [← k, hv])).1
      omega
theorem LQ.longL {ps : List Ap.Part} {gs : List Value} {w w' : World} {B' n : Nat} {lv : Value} {xs : List Value} (h : LQ W B P5 P7 e ez ps gs w) (hv : w.ownsRow B' 22 1 lv n xs) (hB' : B ≤ B') (hg : w.grownBy w' lv.ownBlock) : LQ W B P5 P7 e ez ps gs w' :=
  h.ch (Ch.ofGrown hg) (fun x q => Nat.le_trans hB' (hv.lt x q).1) (fun p hp x hx q => apartT (h.fam.own p hp).1 hv (by decide) x hx q) (fun g hg' x hx q => apartT (h.each g hg') hv (by decide) x hx q)
theorem LQ.longG {ps : List Ap.Part} {gs : List Value} {w w' : World} {B' n : Nat} {lv : Value} {xs : List Value} (h : LQ W B P5 P7 e ez ps gs w) (hv : w.ownsRow B' 43 1 lv n xs) (hB' : B ≤ B') (hg : w.grownBy w' lv.ownBlock) : LQ W B P5 P7 e ez ps gs w' :=
  h.ch (Ch.ofGrown hg) (fun x q => Nat.le_trans hB' (hv.lt x q).1) (fun p hp x hx q => apartT (h.fam.own p hp).1 hv (by decide) x hx q) (fun g hg' x hx q => apartT (h.each g hg') hv (by decide) x hx q)
theorem keep_row {w w' : World} {B B' : Nat} {t t' : TypeId} {sz sz' : Nat} {v v' : Value} {n n' : Nat} {xs xs' : List Value} (hv : w.ownsRow B t sz v n xs) (hv' : w.ownsRow B' t' sz' v' n' xs') (hne : t ≠ t') (hg : w.grownBy w' v'.ownBlock) : w'.ownsRow B t sz v n xs := (Ch.ofGrown hg).owns hv (fun g h1 h2 => apartT hv hv' hne g h1 h2)
theorem LS.rows3 {k : Nat} {lv gv : Value} {ps : List Ap.Part} {gs : List Value} {a0 a1 a2 a3 a4 a5 a6 : World} (h : LS W B P5 P7 e ez k lv gv ps gs a0)
    {u1 u2 u4 : Option Addr} {n1 n2 n4 c1 c2 c4 : Nat} {l1 l2 l4 : List Nat} {g : Value}
    (b1 : Below a0.heap.size a0 a1) (o1 : l1.length = n1 ∧ a1.ownsRow a0.heap.size 5 1 (.slice u1 n1 c1) n1 ((toI l1).map (Value.int .u8))) (m1 : l1.length ≤ 65535)
    (b2 : Below a1.heap.size a1 a2) (o2 : l2.length = n2 ∧ a2.ownsRow a1.heap.size 5 1 (.slice u2 n2 c2) n2 ((toI l2).map (Value.int .u8))) (m2 : l2.length ≤ 65535)
    (b3 : Below a2.heap.size a2 a3)
    (b4 : Below a3.heap.size a3 a4) (o4 : l4.length = n4 ∧ a4.ownsRow a3.heap.size 5 1 (.slice u4 n4 c4) n4 ((toI l4).map (Value.int .u8))) (m4 : l4.length ≤ 65535)
    (b5 : Below a4.heap.size a4 a5) (o5 : a5.ownsRow a4.heap.size 45 2 g e.s.gp.length (gC e.s.gp)) (b6 : Below a5.heap.size a5 a6) :
    LQ W B P5 P7 e ez (((ps ++ [⟨u1, c1, l1⟩]) ++ [⟨u2, c2, l2⟩]) ++ [⟨u4, c4, l4⟩]) (gs ++ [g]) a6 := by
  refine LQ.below (LQ.addG (LQ.addP (LQ.below (LQ.addP (LQ.addP h.lq b1 ⟨u1, c1, l1⟩ ?_ m1) b2 ⟨u2, c2, l2⟩ ?_ m2) b3) b4 ⟨u4, c4, l4⟩ ?_ m4) b5 g o5) b6
  · show Ap.OwnB a1 _ (.slice u1 l1.length c1) l1.length l1
    rw [o1.1]; exact o1.2
  · show Ap.OwnB a2 _ (.slice u2 l2.length c2) l2.length l2
    rw [o2.1]; exact o2.2
  · show Ap.OwnB a4 _ (.slice u4 l4.length c4) l4.length l4
    rw [o4.1]; exact o4.2
theorem map3 (ps : List Ap.Part) {u1 u2 u4 : Option Addr} {n1 n2 n4 c1 c2 c4 : Nat} {l1 l2 l4 : List Nat} (h1 : l1.length = n1) (h2 : l2.length = n2) (h4 : l4.length = n4) : ps.map Ap.Part.val ++ [.slice u1 n1 c1, .slice u2 n2 c2, .slice u4 n4 c4] = List.map Ap.Part.val (((ps ++ [⟨u1, c1, l1⟩]) ++ [⟨u2, c2, l2⟩]) ++ [⟨u4, c4, l4⟩]) := by
  subst h1 h2 h4
  simp [Ap.Part.val]
theorem threeW (w : World) (x y z : Value) (T : TypeId) : ∀ j u, ([x, y, z] : List Value)[j]? = some u → (w.alloc (.cells #[x, y, z] T)).cell? ((⟨w.heap.size, 0, none⟩ : Addr).add j) = some u := by
  intro j u hu
  rw [Addr.add_lit, Nat.zero_add, World.cell?_alloc_at _ _ _ _ rfl]
  simpa using hu
theorem oneW (w : World) (x : Value) (T : TypeId) : ∀ j u, ([x] : List Value)[j]? = some u → (w.alloc (.cells #[x] T)).cell? ((⟨w.heap.size, 0, none⟩ : Addr).add j) = some u := by
  intro j u hu
  rw [Addr.add_lit, Nat.zero_add, World.cell?_alloc_at _ _ _ _ rfl]
  simpa using hu
theorem twoW (w : World) (x y : Value) (T : TypeId) : ∀ j u, (rep 1 [x, y])[j]? = some u → (w.alloc (.cells #[x, y] T)).cell? ((⟨w.heap.size, 0, none⟩ : Addr).add j) = some u := by
  intro j u hu
  rw [Addr.add_lit, Nat.zero_add, World.cell?_alloc_at _ _ _ _ rfl]
  simpa [rep] using hu
/-- the rows of holes, each at its place in the list -/
def mk2 (j : Nat) : List Value := [.int .i64 (-1 - (j : Int)), .int .i64 (-1 - (j : Int))]
structure LR (W : World) (B P5 P7 : Nat) (e ez : Ent) (gb G : Nat) (gl : Nat → Value) (X : Nat → List Value) (w : World) : Prop where
  ln : HLn W P5 P7 e ez w
  c : ∀ j, j < 2 → w.cell? ⟨gb, j, none⟩ = some (gl j)
  row : ∀ j, j < 2 → w.ownsRow 0 45 2 (gl j) G (X j)
  lo : ∀ j, j < 2 → ∀ q, (gl j).ownBlock = some q → B ≤ q
  dis : ∀ j k, j < 2 → k < 2 → j ≠ k → ∀ q, (gl j).ownBlock = some q → ¬ (gl k).ownBlock = some q
  nb : ∀ j, j < 2 → ¬ (gl j).ownBlock = some gb
  old : ∀ x, EB e x ∨ EB ez x ∨ x = P5 ∨ x = P7 → x < B
  hB : W.heap.size ≤ B ∧ B ≤ w.heap.size
  gbl : B ≤ gb ∧ gb < w.heap.size
theorem LR.ch {gb G : Nat} {gl : Nat → Value} {X : Nat → List Value} {S : Nat → Prop} {w w' : World} (h : LR W B P5 P7 e ez gb G gl X w) (c : Ch S w w') (hS : ∀ x, S x → B ≤ x) (hg : ¬ S gb) (hr : ∀ j, j < 2 → ∀ q, (gl j).ownBlock = some q → ¬ S q) : LR W B P5 P7 e ez gb G gl X w' :=
  ⟨h.ln.ch c (fun x q => Nat.le_trans h.hB.1 (hS x q)) (fun x hx q => by have h1 := h.old x hx; have h2 := hS x q; omega), fun j hj => c.cell (h.c j hj) hg, fun j hj => c.owns (h.row j hj) (hr j hj), h.lo, h.dis, h.nb, h.old, ⟨h.hB.1, Nat.le_trans h.hB.2 c.size⟩, ⟨h.gbl.1, Nat.lt_of_lt_of_le h.gbl.2 c.size⟩⟩
theorem LR.below {gb G : Nat} {gl : Nat → Value} {X : Nat → List Value} {w w' : World} (h : LR W B P5 P7 e ez gb G gl X w) (hb : Below w.heap.size w w') : LR W B P5 P7 e ez gb G gl X w' :=
  h.ch (Ch.ofBelow (S := fun _ => False) hb) (fun _ q => q.elim) id (fun _ _ _ _ => id)
theorem LR.congr {gb G : Nat} {gl : Nat → Value} {X X' : Nat → List Value} {w : World} (h : LR W B P5 P7 e ez gb G gl X w) (hX : ∀ j, j < 2 → X j = X' j) : LR W B P5 P7 e ez gb G gl X' w :=
  ⟨h.ln, h.c, fun j hj => by rw [← hX j hj]; exact h.row j hj, h.lo, h.dis, h.nb, h.old, h.hB, h.gbl⟩
/-- one of the rows changed -/
theorem LR.upd {gb G : Nat} {gl : Nat → Value} {X X' : Nat → List Value} {w w' : World} {i : Nat} (h : LR W B P5 P7 e ez gb G gl X w) (hi : i < 2) (c : Ch (fun q => (gl i).ownBlock = some q) w w') (ho : w'.ownsRow 0 45 2 (gl i) G (X' i)) (hX : ∀ j, j ≠ i → X' j = X j) : LR W B P5 P7 e ez gb G gl X' w' := by
  refine ⟨h.ln.ch c (fun x q => Nat.le_trans h.hB.1 (h.lo i hi x q)) (fun x hx q => by have h1 := h.old x hx; have h2 := h.lo i hi x q; omega), fun j hj => c.cell (h.c j hj) (h.nb i hi), fun j hj => ?_, h.lo, h.dis, h.nb, h.old, ⟨h.hB.1, Nat.le_trans h.hB.2 c.size⟩, ⟨h.gbl.1, Nat.lt_of_lt_of_le h.gbl.2 c.size⟩⟩
  by_cases q : j = i
  · rw [q]; exact ho
  · rw [hX j q]; exact c.owns (h.row j hj) (fun x hx z => h.dis j i hj hi q x hx z)
/-- behind Apart: the rows of bytes are forgotten -/
theorem LS.holes {la ga : Option Addr} {lc gc : Nat} {ps : List Ap.Part} {gs : List Value} {w w' : World} (h : LS W B P5 P7 e ez 2 (.slice la 6 lc) (.slice ga 2 gc) ps gs w) (c : Ch (fun q => ∃ p ∈ ps, p.val.ownBlock = some q) w w') :
    ∃ gb gl, ga = some ⟨gb, 0, none⟩ ∧ 2 ≤ gc ∧ (∀ j, j < 2 → ∃ a c, gl j = Value.slice a e.s.gp.length c) ∧ LR W B P5 P7 e ez gb e.s.gp.length gl (fun _ => gC e.s.gp) w' := by
  have hgs : gs.length = 2 := by have := h.gr.1; simpa using this
  match gs, hgs with
  | [g0, g1], _ =>
    have hS : ∀ x, (∃ p ∈ ps, p.val.ownBlock = some x) → B ≤ x := fun x ⟨p, hp, q⟩ => ((h.fam.own p hp).1.lt x q).1
    have hgr : w'.ownsRow B 43 1 (.slice ga 2 gc) 2 [g0, g1] := c.owns h.gr (fun x hx ⟨p, hp, q⟩ => apartT h.gr (h.fam.own p hp).1 (by decide) x hx q)
    have hea : ∀ g, g ∈ [g0, g1] → w'.ownsRow B 45 2 g e.s.gp.length (gC e.s.gp) := fun g hg => c.owns (h.each g hg) (fun x hx ⟨p, hp, q⟩ => apartT (h.each g hg) (h.fam.own p hp).1 (by decide) x hx q)
    have hd : Ap.R g0 g1 := by
      have := h.gd
      rw [List.pairwise_cons] at this
      exact this.1 g1 (by simp)
    rcases hgr.2 with ⟨_, h0⟩ | ⟨gb, cap, cur, e1, hgb, hh, hle, _⟩
    · omega
    · simp only [Value.slice.injEq, true_and] at e1
      obtain ⟨rfl, rfl⟩ := e1
      let gl : Nat → Value := fun j => if j = 0 then g0 else g1
      have hm : ∀ j, gl j ∈ [g0, g1] := fun j => by
        show (if j = 0 then g0 else g1) ∈ [g0, g1]
        by_cases q : j = 0
        · rw [if_pos q]; simp
        · rw [if_neg q]; simp
      refine ⟨gb, gl, rfl, hle, fun j hj => owns_shape (hea _ (hm j)), ⟨h.ln.ch c (fun x q => Nat.le_trans h.hB.1 (hS x q)) (fun x hx q => by have h1 := h.old x hx; have h2 := hS x q; omega), fun j hj => ?_, fun j hj => owns_mono (hea _ (hm j)) (Nat.zero_le _), fun j hj q hq => ((hea _ (hm j)).lt q hq).1, fun j k hj hk hjk q hq z => ?_, fun j hj q => ?_, h.old, ⟨h.hB.1, Nat.le_trans h.hB.2 c.size⟩, ⟨hgb, (hgr.lt gb rfl).2⟩⟩⟩
      · rw [hgr.cellAt j (by omega)]
        match j, hj with
        | 0, _ => rfl
        | 1, _ => rfl
      · have key : ∀ q, g0.ownBlock = some q → ¬ g1.ownBlock = some q := fun q h1 h2 => by
          rcases hd with z | z
          · rw [h1] at z; simp at z
          · exact z (by rw [h1, h2])
        rcases (show (j = 0 ∧ k = 1) ∨ (j = 1 ∧ k = 0) by omega) with ⟨rfl, rfl⟩ | ⟨rfl, rfl⟩
        · exact key q hq z
        · exact key q z hq
      · exact apartT (hea _ (hm j)) hgr (by decide) gb q rfl
/-- while the rows are lengthened: i of them are long -/
structure LL (W : World) (B P5 P7 : Nat) (e ez : Ent) (gb G B3 : Nat) (gl : Nat → Value) (i : Nat) (Lg : Nat → Value) (w : World) : Prop where
  lr : LR W B P5 P7 e ez gb G gl (fun j => rep G (mk2 j)) w
  lon : ∀ j, j < i → w.ownsRow 0 45 2 (Lg j) (G + (G + 70)) (rep (G + (G + 70)) (mk2 j))
  sep : ∀ j k, j < i → i ≤ k → k < 2 → ∀ q, (Lg j).ownBlock = some q → ¬ (gl k).ownBlock = some q
  loL : ∀ j, j < i → ∀ q, (Lg j).ownBlock = some q → B ≤ q
  gb3 : gb < B3 ∧ B ≤ B3 ∧ B3 ≤ w.heap.size
  rl3 : ∀ j, j < 2 → ∀ q, (gl j).ownBlock = some q → q < B3
theorem LL.start {gb G : Nat} {gl : Nat → Value} {w : World} (h : LR W B P5 P7 e ez gb G gl (fun j => rep G (mk2 j)) w) (Lg : Nat → Value) : LL W B P5 P7 e ez gb G w.heap.size gl 0 Lg w :=
  ⟨h, fun j hj => by omega, fun j k hj => by omega, fun j hj => by omega, ⟨h.gbl.2, h.hB.2, Nat.le_refl _⟩, fun j hj q hq => ((h.row j hj).lt q hq).2⟩
/-- one row while it is lengthened -/
structure IG (gi : Value) (G i n : Nat) (wi : World) (g : Value) (w : World) : Prop where
  fy : Fy w 0 45 (mk2 i) g n 0 [(gi, G)]
  ch : Ch (fun q => gi.ownBlock = some q) wi w
  at' : ∀ q, g.ownBlock = some q → gi.ownBlock = some q ∨ wi.heap.size ≤ q
theorem IG.start {gi : Value} {G i : Nat} {w : World} (h : w.ownsRow 0 45 2 gi G (rep G (mk2 i))) : IG gi G i G w gi w :=
  ⟨⟨h, fun r hr => by rw [List.mem_singleton.1 hr]; exact ⟨h, by simp⟩⟩, Ch.refl _ _, fun _ hq => .inl hq⟩
theorem IG.below {gi : Value} {G i n : Nat} {wi : World} {g : Value} {w w' : World} (h : IG gi G i n wi g w) (hb : Below w.heap.size w w') : IG gi G i n wi g w' :=
  ⟨h.fy.below hb, h.ch.trans (Ch.ofBelow (S := fun _ => False) hb) (fun _ _ q => q.elim), h.at'⟩
theorem IG.step {gi : Value} {G i n : Nat} {wi : World} {g g' : Value} {w w' : World} (h : IG gi G i n wi g w) (hf : Fy w' 0 45 (mk2 i) g n 1 ([(gi, G)] ++ [(g', n + 1)])) (hc : Ch (fun q => g.ownBlock = some q) w w') (hq : ∀ q, g'.ownBlock = some q → g.ownBlock = some q ∨ w.heap.size ≤ q) : IG gi G i (n + 1) wi g' w' := by
  have hG : G ≤ n := (h.fy.mem (gi, G) (by simp)).2
  refine ⟨⟨(hf.mem (g', n + 1) (by simp)).1, fun r hr => ?_⟩, h.ch.trans hc (fun x hx q => ?_), fun q hq' => ?_⟩
  · rw [List.mem_singleton.1 hr]; exact ⟨(hf.mem (gi, G) (by simp)).1, by show G ≤ n + 1 + 0; omega⟩
  · rcases h.at' x q with z | z
    · exact z
    · omega
  · rcases hq q hq' with z | z
    · exact h.at' q z
    · exact .inr (Nat.le_trans h.ch.size z)
theorem LL.step {gb G B3 : Nat} {gl : Nat → Value} {i : Nat} {Lg : Nat → Value} {w w' : World} {g : Value} (h : LL W B P5 P7 e ez gb G B3 gl i Lg w) (hi : i < 2) (k : IG (gl i) G i (G + (G + 70)) w g w') : LL W B P5 P7 e ez gb G B3 gl (i + 1) (fun j => if j = i then g else Lg j) w' := by
  have hm := k.fy.mem (gl i, G) (by simp)
  have hsz := h.lr.hB.2
  refine ⟨h.lr.upd hi k.ch hm.1 (fun _ _ => rfl), fun j hj => ?_, fun j m hj hm' hm2 q hq z => ?_, fun j hj q hq => ?_, ⟨h.gb3.1, h.gb3.2.1, Nat.le_trans h.gb3.2.2 k.ch.size⟩, h.rl3⟩
  · by_cases q : j = i
    · subst q; simp only [if_true]; exact k.fy.own
    · simp only [q, if_false]; exact k.ch.owns (h.lon j (by omega)) (fun x hx z => h.sep j i (by omega) (Nat.le_refl _) hi x hx z)
  · by_cases q' : j = i
    · simp only [q', if_true] at hq
      rcases k.at' q hq with y | y
      · exact h.lr.dis i m hi hm2 (by omega) q y z
      · have h1 := h.rl3 m hm2 q z
        have h2 := h.gb3.2.2
        omega
    · simp only [q', if_false] at hq
      exact h.sep j m (by omega) (by omega) hm2 q hq z
  · by_cases q' : j = i
    · simp only [q', if_true] at hq
      rcases k.at' q hq with y | y
      · exact h.lr.lo i hi q y
      · omega
    · simp only [q', if_false] at hq
      exact h.loL j (by omega) q hq
theorem LL.below {gb G B3 : Nat} {gl : Nat → Value} {i : Nat} {Lg : Nat → Value} {w w' : World} (h : LL W B P5 P7 e ez gb G B3 gl i Lg w) (hb : Below w.heap.size w w') : LL W B P5 P7 e ez gb G B3 gl i Lg w' :=
  ⟨h.lr.below hb, fun j hj => owns_down hb (h.lon j hj), h.sep, h.loL, ⟨h.gb3.1, h.gb3.2.1, Nat.le_trans h.gb3.2.2 hb.size⟩, h.rl3⟩
/-- the list of the long ones is lengthened -/
theorem LL.long {gb G B3 : Nat} {gl : Nat → Value} {i : Nat} {Lg : Nat → Value} {w w' : World} {lv : Value} {n : Nat} {xs : List Value} (h : LL W B P5 P7 e ez gb G B3 gl i Lg w) (hv : w.ownsRow B3 43 1 lv n xs) (hg : w.grownBy w' lv.ownBlock) : LL W B P5 P7 e ez gb G B3 gl i Lg w' := by
  have c := Ch.ofGrown hg
  have h3 := h.gb3
  refine ⟨h.lr.ch c (fun x q => by have h1 := (hv.lt x q).1; omega) (fun q => by have h1 := (hv.lt gb q).1; omega) (fun j hj q hq z => apartT (h.lr.row j hj) hv (by decide) q hq z), fun j hj => c.owns (h.lon j hj) (fun q hq z => apartT (h.lon j hj) hv (by decide) q hq z), h.sep, h.loL, ⟨h3.1, h3.2.1, Nat.le_trans h3.2.2 c.size⟩, h.rl3⟩
theorem list2 {w : World} {B3 i lc : Nat} {la : Option Addr} {Lg : Nat → Value} (hv : w.ownsRow B3 43 1 (.slice la i lc) i ((List.range i).map Lg)) (hi : i = 2) : ∃ lb, la = some ⟨lb, 0, none⟩ ∧ ∀ j, j < 2 → w.cell? ⟨lb, j, none⟩ = some (Lg j) := by
  subst hi
  rcases hv.2 with ⟨_, h0⟩ | ⟨g, cap, cur, e1, _⟩
  · omega
  · simp only [Value.slice.injEq, true_and] at e1
    obtain ⟨rfl, rfl⟩ := e1
    refine ⟨g, rfl, fun j hj => ?_⟩
    rw [hv.cellAt j (by omega)]
    simp [hj]
theorem row_mk {w : World} {v : Value} {n j : Nat} (h : w.ownsRow 0 45 2 v n (rep n (mk2 j))) : ∃ a c, v = .slice a n c ∧ ∀ k, k < n → ∃ g, a = some ⟨g, 0, none⟩ ∧ w.cell? ⟨g, k * 2, none⟩ = some (.int .i64 (-1 - (j : Int))) ∧ w.cell? ⟨g, k * 2 + 1, none⟩ = some (.int .i64 (-1 - (j : Int))) := by
  obtain ⟨a, c, rfl⟩ := owns_shape h
  refine ⟨a, c, rfl, fun k hk => ?_⟩
  rcases h.2 with ⟨_, h0⟩ | ⟨g, cap, cur, e1, _⟩
  · omega
  · simp only [Value.slice.injEq, true_and] at e1
    obtain ⟨rfl, rfl⟩ := e1
    refine ⟨g, rfl, ?_, ?_⟩
    · rw [h.cellAt (k * 2) (by omega)]; exact rep_get2 n _ _ k hk
    · rw [h.cellAt (k * 2 + 1) (by omega)]; exact rep_get2' n _ _ k hk
/-- behind the loops: all that is asked for is as it was -/
structure LA (W : World) (P5 P7 : Nat) (e ez : Ent) (BK : Nat) (t : Nat) (b : BV) (w : World) : Prop where
  ln : HLn W P5 P7 e ez w
  bk : BkM w BK b
  hE : b.Mb = b.E.map (fun r => r.2.2)
  hG : b.Mg = b.G.map (fun r => r.2.2)
  le : b.E.length ≤ 4 * t
  lg : b.G.length ≤ 4 * t
  bl : ∀ x, BB BK b x → W.heap.size ≤ x
  bd : ∀ x, BB BK b x → ¬ (EB e x ∨ EB ez x ∨ x = P5 ∨ x = P7)
theorem HLn.far {w : World} (h : HLn W P5 P7 e ez w) {x : Nat} (hx : w.heap.size ≤ x) : ¬ (EB e x ∨ EB ez x ∨ x = P5 ∨ x = P7) := by
  rintro (q | q | q | q)
  · have := h.ok1.lt x q; omega
  · have := h.ok2.lt x q; omega
  · have := h.p5.lt; omega
  · have := h.p7.lt; omega
theorem LA.ask {BK t : Nat} {b : BV} {w w' : World} (h : LA W P5 P7 e ez BK t b w) (m : BkE w BK b w') : ∃ b', LA W P5 P7 e ez BK (t + 1) b' w' := by
  obtain ⟨b', m1, m2, m3, m4, m5, m6, m7⟩ := m
  have h1 := h.le
  have h2 := h.lg
  refine ⟨b', h.ln.ch m7 h.bl (fun x hx q => h.bd x q hx), m1, m2, m3, by omega, by omega, fun x hx => ?_, fun x hx => ?_⟩
  · rcases m6 x hx with z | z
    · exact h.bl x z
    · exact Nat.le_trans h.ln.bel.size z
  · rcases m6 x hx with z | z
    · exact h.bd x z
    · exact h.ln.far z
theorem LA.start {w w' : World} (h : HLn W P5 P7 e ez w) (hw : w' = w.alloc (.cells #[.slice none 0 0, .slice none 0 0, .slice none 0 0, .slice none 0 0] 65)) : LA W P5 P7 e ez w.heap.size 0 bz0 w' := by
  refine ⟨h.below (by rw [hw]; exact (Below.refl _ _).alloc (Nat.le_refl _) _), bk_new w w' hw, rfl, rfl, Nat.le_refl _, Nat.le_refl _, fun x hx => ?_, fun x hx => ?_⟩
  · rw [bz0_bb hx]; exact h.bel.size
  · rw [bz0_bb hx]; exact h.far (Nat.le_refl _)
end
end Go.Proofs.Ytcoaghcmbhogjaa.H11
