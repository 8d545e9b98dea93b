/-
  Layer 20, captures: a list of rows of bytes of one's own, which are written and lengthened.
-/
import Derived.Test.YtpdfepnifjolkaaDCB
import Derived.Laws.BitsAllLaws
namespace Go.Proofs.Ytpdfepnifjolkaa
open Go.RowKit Go.ChangeShapes Go.WideShapes

/-- a row of bytes of one's own, or one that is full and was laid as a constant's -/
def RowM (w : World) (base : Nat) (v : Value) (l : List Nat) : Prop := OwnB w base v l.length l ∨ ∃ g, v = .slice (some ⟨g, 0, none⟩) l.length l.length ∧ base ≤ g ∧ w.heap[g]? = some (.cells ((toI l).map (Value.int .u8)).toArray 5 (l.length, l.length + 1))
theorem RowW.m {w : World} {base : Nat} {v : Value} {l : List Nat} (h : RowW w base v l) : RowM w base v l := by
  rcases h with h | ⟨rfl, g, rfl, hb, hh⟩
  · exact .inl h
  · exact .inr ⟨g, rfl, hb, hh⟩
/-- a block of bytes -/
def Ub (w : World) (q : Nat) : Prop := ∃ c fr, w.heap[q]? = some (.cells c 5 fr)
theorem RowM.lt {w : World} {base : Nat} {v : Value} {l : List Nat} (h : RowM w base v l) : ∀ g, v.ownBlock = some g → base ≤ g ∧ g < w.heap.size ∧ Ub w g := by
  intro g hg
  rcases h with h | ⟨q, rfl, hb, hh⟩
  · obtain ⟨c, hc⟩ := (h.kind g hg).2.2
    exact ⟨(h.kind g hg).1, (h.kind g hg).2.1, c, _, hc⟩
  · simp [Value.ownBlock] at hg; subst hg; exact ⟨hb, (Array.getElem?_eq_some_iff.1 hh).1, _, _, hh⟩
theorem RowM.ch {S : Nat → Prop} {w b : World} {base : Nat} {v : Value} {l : List Nat} (h : RowM w base v l) (k : Ch S w b) (hS : ∀ g, v.ownBlock = some g → ¬ S g) : RowM b base v l := by
  rcases h with h | ⟨q, rfl, hb, hh⟩
  · exact .inl (k.owns h hS)
  · exact .inr ⟨q, rfl, hb, (k.block q (Array.getElem?_eq_some_iff.1 hh).1 (hS q rfl)).trans hh⟩
theorem RowM.form {w : World} {base : Nat} {v : Value} {l : List Nat} (h : RowM w base v l) : ∃ a c, v = .slice a l.length c := by
  rcases h with h | ⟨q, rfl, hb, hh⟩
  · rcases h.2 with ⟨rfl, h0⟩ | ⟨g, cap, cur, rfl, _, _, hc, _⟩
    · exact ⟨none, 0, by rw [h0]⟩
    · exact ⟨_, _, rfl⟩
  · exact ⟨_, _, rfl⟩
/-- a byte of such a row -/
theorem RowM.byte {w : World} {base : Nat} {a : Option Addr} {n c : Nat} {l : List Nat} (h : RowM w base (.slice a n c) l) {j : Nat} (hj : j < l.length) : ∃ b, a = some ⟨b, 0, none⟩ ∧ base ≤ b ∧ w.cell? ⟨b, j, none⟩ = some (.int .u8 ((l.getD j 0 : Nat) : Int)) ∧ w.frozen? ⟨b, j, none⟩ = false ∧ ∀ x : Nat, RowM (w.setCell ⟨b, j, none⟩ (.int .u8 (x : Int))) base (.slice a n c) (l.set j x) := by
  rcases h with h | ⟨q, e, hb, hh⟩
  · rcases h.2 with ⟨h0, h1⟩ | ⟨b, cap, cur, hv, hb, hh, r⟩
    · omega
    · simp only [Value.slice.injEq] at hv
      obtain ⟨rfl, rfl, rfl⟩ := hv
      have h2 := h
      unfold OwnB at h2
      refine ⟨b, rfl, hb, ?_, World.ownsRow.frozenAt h2 j, fun x => .inl ?_⟩
      · have h1 := h2.cells rfl j (.int .u8 ((l.getD j 0 : Nat) : Int)) (by simp [toI, List.getD, hj])
        rwa [Addr.add_lit, Nat.zero_add] at h1
      · have hst := (h2.stored j (.int .u8 (x : Int))).1
        have e2 : ((toI l).map (Value.int .u8)).set j (.int .u8 (x : Int)) = (toI (l.set j x)).map (Value.int .u8) := by simp [toI, List.map_set]
        unfold OwnB
        rw [List.length_set, ← e2]
        exact hst
  · simp only [Value.slice.injEq] at e
    obtain ⟨rfl, rfl, rfl⟩ := e
    refine ⟨q, rfl, hb, ?_, ?_, fun x => .inr ⟨q, by rw [List.length_set], hb, ?_⟩⟩
    · unfold World.cell?
      simp only [hh]
      simp [toI, List.getD, hj]
    · unfold World.frozen?
      simp only [hh]
      simp
      omega
    · rw [setCell_eq_setRow w q j _ _ _ _ hh, setRow_heap w q _ _ _ _ hh, List.length_set]
      congr 1
      simp [toI, List.map_set]
theorem RowM.seg {w : World} {base : Nat} {a : Option Addr} {n c : Nat} {l : List Nat} (h : RowM w base (.slice a n c) l) : Seg .u8 w a (toI l) := by
  rcases h with h | ⟨q, e, hb, hh⟩
  · obtain ⟨a', c', e, hs⟩ := owns_seg h
    simp only [Value.slice.injEq] at e
    rw [e.1]; exact hs.1
  · simp only [Value.slice.injEq] at e
    rw [e.1]
    refine .inr ⟨_, _, rfl, fun i hi => ?_⟩
    rw [Nat.zero_add]
    unfold World.cell?
    simp only [hh]
    simp [List.getD, hi]
theorem owns_shorter {w : World} {B g n m cap : Nat} {e : TypeId} {xs ys : List Value} (h : w.ownsRow B e 1 (.slice (some ⟨g, 0, none⟩) (n + m) cap) (n + m) (xs ++ ys)) (hx : xs.length = n) : w.ownsRow B e 1 (.slice (some ⟨g, 0, none⟩) n cap) n xs := by
  refine ⟨by omega, .inr ?_⟩
  rcases h.2 with ⟨h1, _⟩ | ⟨g', cap', cur, h1, hb, hh, hn, hc, hs, ht⟩
  · simp at h1
  · simp only [Value.slice.injEq, Option.some.injEq, Addr.mk.injEq, and_true, true_and] at h1
    obtain ⟨rfl, rfl⟩ := h1
    refine ⟨g, cap, cur, rfl, hb, hh, by omega, hc, hs, ?_⟩
    have := congrArg (List.take n) ht
    rw [List.take_take, List.take_left' hx] at this
    rw [Nat.mul_one]
    rwa [Nat.mul_one, Nat.min_eq_left (by omega)] at this
/-- what an append of one byte leaves -/
def App2 (w w' : World) (base : Nat) (v v' : Value) (l : List Nat) (y : Nat) : Prop := (∃ b cap, v = .slice (some ⟨b, 0, none⟩) l.length cap ∧ v' = .slice (some ⟨b, 0, none⟩) (l.length + 1) cap ∧ OwnB w' base v' (l.length + 1) (l ++ [y]) ∧ Ch (fun q => q = b) w w') ∨ (OwnB w' w.heap.size v' (l.length + 1) (l ++ [y]) ∧ Below w.heap.size w w')
/-- append of one byte: in the row where v lies, or in a new one -/
theorem append_two {ops : Array Oper} {rest : List Oper} {o : Oper} {a : Act} {w : World} {Q : Exit → Act → World → Prop} (hgd : o.guard = none) (s x : Operand) (ho : o.op = .call { callee := .builtin .append, args := #[s, x], argTypes := #[22, 22] })
    (base : Nat) (v : Value) (l : List Nat) (hs : a.eval s = v) (hr : RowM w base v l) (g : Nat) (y : Nat) (hx : a.eval x = .slice (some ⟨g, 0, none⟩) 1 1) (hcell : w.cell? ⟨g, 0, none⟩ = some (.int .u8 (y : Int))) (hb : l.length ≤ 140000000000000)
    (h : ∀ v' w', App2 w w' base v v' l y → wpList Try.prog ops Q rest (a.put o.dst v') w') : wpList Try.prog ops Q (o :: rest) a w := by
  obtain ⟨ti, z0, hi, hz0, hz1, hz2, hz3⟩ : ∃ i z, Try.prog.info? 5 = some i ∧ i.zero = some z ∧ i.size = 1 ∧ i.bytes = 1 ∧ z.cells.size = 1 := by
    have h := Try.infoByte
    cases hi : Try.prog.info? 5 with
    | none => rw [hi] at h; cases h
    | some i => rw [hi] at h; simp at h; exact ⟨i, _, rfl, h.1, h.2.1, h.2.2, rfl⟩
  have hnews : ∀ j u, ([Value.int .u8 (y : Int)] : List Value)[j]? = some u → w.cell? ((⟨g, 0, none⟩ : Addr).add j) = some u := by
    intro j u hj
    have h0 : j = 0 := by have := (List.getElem?_eq_some_iff.1 hj).1; simp at this; exact this
    subst h0
    simp only [List.getElem?_cons_zero, Option.some.injEq] at hj
    rw [Addr.add_lit, ← hj]
    exact hcell
  have h1 : ∀ u ∈ ([Value.int .u8 (y : Int)] : List Value), u.oneCell' = true := by intro u hu; simp at hu; subst hu; rfl
  have ey : ∀ l : List Nat, (toI l).map (Value.int .u8) ++ [Value.int .u8 (y : Int)] = (toI (l ++ [y])).map (Value.int .u8) := fun l => by simp [toI]
  have grows : ∀ (b : Addr) (cap : Nat), v = .slice (some b) l.length cap → cap < l.length + 1 → (∀ j u, ((toI l).map (Value.int .u8))[j]? = some u → w.cell? (b.add j) = some u) → wpList Try.prog ops Q (o :: rest) a w := by
    intro b cap hv hc holds
    refine wpList_plain hgd fun K hK => ?_
    obtain ⟨v', w', hrun, r1, r2⟩ := run_append_arg_grows (P := Try.prog) w 22 o.type 5 ti z0 1 1 Try.underlying22 hi hz0 hz1 hz2 hz3 (by decide) b l.length cap ((toI l).map (Value.int .u8)) (by rw [List.length_map, toI_len, Nat.mul_one]) holds ⟨g, 0, none⟩ 1 1 [Value.int .u8 (y : Int)] rfl hnews hc (by unfold maxLen; omega) (by omega)
    rw [hv] at hs
    unfold Oper.wp
    simp [execOp, ho, resolve, invoke, builtin, hs, hx, hrun, Result.andThen]
    rw [ey] at r1
    exact hK _ _ (h v' w' (.inr ⟨r1, ⟨r2.os, r2.tape, r2.output, r2.size, fun q hq => r2.block q hq (by simp)⟩⟩))
  rcases hr with hr | ⟨q, rfl, hq, hh⟩
  · have hown := hr
    unfold OwnB at hown
    rcases hown.2 with ⟨rfl, h0⟩ | ⟨b, cap, cur, rfl, hbg, hg, hnc, hcm, hcs, htake⟩
    · have hl : l = [] := List.eq_nil_of_length_eq_zero h0
      subst hl
      refine wpList_append_own_at w hgd s x 22 ho w.heap.size 5 ti z0 1 1 Try.underlying22 hi hz0 hz1 hz2 hz3 (by decide) (.slice none 0 0) 0 [] hs (World.ownsRow_nil _ _ _ _) ⟨g, 0, none⟩ 1 1 [Value.int .u8 (y : Int)] hx rfl hnews h1 (by decide) (by decide) (Nat.le_refl _) ?_
      intro v' w' r1 r2 _ _
      exact h v' w' (.inr ⟨r1, ⟨r2.os, r2.tape, r2.output, r2.size, fun q hq => r2.block q hq (by simp [Value.ownBlock])⟩⟩)
    · by_cases hroom : l.length + 1 ≤ cap
      · refine wpList_append_own_spare w hgd s x 22 ho base 5 ti 1 Try.underlying22 hi hz1 b l.length cap _ hs hown ⟨g, 0, none⟩ 1 1 [Value.int .u8 (y : Int)] hx rfl hnews h1 hroom ?_
        intro w' r1 r2
        rw [ey] at r1
        exact h _ w' (.inl ⟨b, cap, rfl, rfl, r1, (Ch.ofGrown r2).mono (fun q _ e => by simpa [Value.ownBlock] using e.symm)⟩)
      · exact grows ⟨b, 0, none⟩ cap rfl (by omega) (hown.cells rfl)
  · refine grows ⟨q, 0, none⟩ l.length rfl (by omega) (fun j u hj => ?_)
    rw [Addr.add_lit, Nat.zero_add]
    unfold World.cell?
    simp only [hh]
    simpa using hj
/-- only blocks of bytes are others -/
def K8 (w w' : World) : Prop := Ch (Ub w) w w'
theorem K8.refl (w : World) : K8 w w := Ch.refl _ _
theorem K8.trans {a b c : World} (h : K8 a b) (k : K8 b c) : K8 a c := Ch.trans h k (fun x hx hu => by
  by_cases hs : Ub a x
  · exact hs
  · obtain ⟨q, fr, hq⟩ := hu
    rw [h.block x hx hs] at hq
    exact ⟨q, fr, hq⟩)
theorem K8.below {a b : World} (h : Below a.heap.size a b) : K8 a b := Ch.ofBelow h
theorem K8.of {S : Nat → Prop} {a b : World} (h : Ch S a b) (hS : ∀ x, x < a.heap.size → S x → Ub a x) : K8 a b := Ch.mono h hS
structure RO where
  a : Option Addr
  d : List Nat
  cap : Nat
def roV (r : RO) : Value := .slice r.a r.d.length r.cap
def roL (r : RO) : List Value := [roV r]
theorem roL_len (r : RO) : (roL r).length = 1 := rfl
theorem roL_one (r : RO) : ∀ u ∈ roL r, u.oneCell' = true := by simp [roL, roV, Value.oneCell']
def Apr (c e : RO) : Prop := ∀ g, (roV c).ownBlock = some g → (roV e).ownBlock ≠ some g
theorem Apr.sy (a b : RO) (h : Apr a b) : Apr b a := fun g hg he => h g he hg
structure Rs (w : World) (base : Nat) (v : Value) (R : List RO) : Prop where
  l : GL 1 roL 22 w base v R
  d : ∀ (i : Nat) (r : RO), R[i]? = some r → RowM w base (roV r) r.d
  ne : R.Pairwise Apr
section
variable {w : World} {base : Nat} {v : Value} {R : List RO}
theorem Rs.apart (h : Rs w base v R) {i : Nat} {r : RO} (hr : R[i]? = some r) : ∀ g, (roV r).ownBlock = some g → ¬ v.ownBlock = some g := fun g hg e => by
  obtain ⟨_, _, c, fr, hc⟩ := (h.d i r hr).lt g hg
  obtain ⟨_, _, y, hy⟩ := h.l.kind g e
  rw [hc] at hy
  simp at hy
theorem Rs.ch {S : Nat → Prop} {b : World} (h : Rs w base v R) (k : Ch S w b) (h1 : ∀ g, v.ownBlock = some g → ¬ S g) (h2 : ∀ (i : Nat) (r : RO), R[i]? = some r → ∀ g, (roV r).ownBlock = some g → ¬ S g) : Rs b base v R :=
  ⟨h.l.ch k h1, fun i r hr => (h.d i r hr).ch k (h2 i r hr), h.ne⟩
theorem Rs.below {b : World} (h : Rs w base v R) (k : Below w.heap.size w b) : Rs b base v R := h.ch (Ch.ofBelow (S := fun _ => False) k) (fun _ _ => id) (fun _ _ _ _ _ => id)
theorem Rs.at (h : Rs w base v R) {i : Nat} {r : RO} (hr : R[i]? = some r) : ∃ g cap, v = .slice (some ⟨g, 0, none⟩) R.length cap ∧ base ≤ g ∧ g < w.heap.size ∧ w.cell? ⟨g, i, none⟩ = some (roV r) ∧ ¬ Ub w g := by
  obtain ⟨g, cap, rfl, hb, hlt, hrg⟩ := h.l.at roL_len i r hr
  obtain ⟨_, _, y, hy⟩ := h.l.kind g rfl
  refine ⟨g, cap, rfl, hb, hlt, ?_, fun ⟨c, fr, hc⟩ => ?_⟩
  · have := hrg 0 (roV r) rfl
    rwa [Nat.mul_one, Nat.add_zero] at this
  · rw [hc] at hy; simp at hy
/-- a row is another, in the same block -/
theorem Rs.row {w1 : World} (h : Rs w base v R) {i : Nat} {r r' : RO} (hr : R[i]? = some r) (hV : roV r' = roV r) (k : Ch (fun q => (roV r).ownBlock = some q) w w1) (ho : RowM w1 base (roV r') r'.d) : Rs w1 base v (R.set i r') := by
  have hi := (List.getElem?_eq_some_iff.1 hr)
  refine ⟨?_, ?_, pw_set Apr.sy h.ne (fun j y hj hy g hg => by rw [hV] at hg; exact pw_at Apr.sy h.ne hr hy hj g hg)⟩
  · have h1 := h.l.ch k (fun g hg hq => h.apart hr g hq hg)
    unfold GL at h1 ⊢
    rw [List.length_set]
    have e1 : (R.set i r').flatMap roL = R.flatMap roL := by
      rw [List.set_eq_take_append_cons_drop, if_pos hi.1, List.flatMap_append, List.flatMap_cons, show roL r' = roL r by unfold roL; rw [hV]]
      conv => rhs; rw [← List.take_append_drop i R, List.drop_eq_getElem_cons hi.1, hi.2, List.flatMap_append, List.flatMap_cons]
    rw [e1]
    exact h1
  · intro t c hc
    rw [List.getElem?_set] at hc
    by_cases ht : i = t
    · rw [if_pos ht, if_pos hi.1, Option.some.injEq] at hc
      subst hc
      exact ho
    · rw [if_neg ht] at hc
      exact (h.d t c hc).ch k (fun g hg hq => pw_at Apr.sy h.ne hr hc (fun q => ht q.symm) g hq hg)
def RO.wd (r : RO) (d : List Nat) : RO := ⟨r.a, d, r.cap⟩
/-- a byte of a row -/
theorem Rs.byte (h : Rs w base v R) {i j : Nat} {r : RO} (hr : R[i]? = some r) (hj : j < r.d.length) : ∃ b, r.a = some ⟨b, 0, none⟩ ∧ base ≤ b ∧ Ub w b ∧ w.cell? ⟨b, j, none⟩ = some (.int .u8 ((r.d.getD j 0 : Nat) : Int)) ∧ w.frozen? ⟨b, j, none⟩ = false ∧
    ∀ x : Nat, Rs (w.setCell ⟨b, j, none⟩ (.int .u8 (x : Int))) base v (R.set i (r.wd (r.d.set j x))) := by
  have hd := h.d i r hr
  unfold roV at hd
  obtain ⟨b, hb, hbb, hc, hf, hx⟩ := hd.byte hj
  have hob : (roV r).ownBlock = some b := by unfold roV; rw [hb]; rfl
  refine ⟨b, hb, hbb, ((h.d i r hr).lt b hob).2.2, hc, hf, fun x => ?_⟩
  have hV : roV (r.wd (r.d.set j x)) = roV r := by unfold roV RO.wd; simp
  refine h.row hr hV ((Ch.refl (fun q => (roV r).ownBlock = some q) w).set ⟨b, j, none⟩ _ hob) ?_
  rw [hV]
  exact hx x
end
/-- the lengthened one of a row: it lies in the row's own block, or in one of its own -/
structure Lg (w : World) (base : Nat) (v : Value) (R : List RO) (k : Nat) (r : RO) (fv : Value) (x : List Nat) : Prop where
  rs : Rs w base v R
  at_ : R[k]? = some r
  b : RowM w base fv (r.d ++ x)
  wh : fv = .slice r.a (r.d.length + x.length) r.cap ∨ ∀ q, fv.ownBlock = some q → v.ownBlock ≠ some q ∧ ∀ (i : Nat) (c : RO), R[i]? = some c → (roV c).ownBlock ≠ some q
theorem Lg.start {w : World} {base : Nat} {v : Value} {R : List RO} {k : Nat} {r : RO} (h : Rs w base v R) (hr : R[k]? = some r) : Lg w base v R k r (roV r) [] := ⟨h, hr, by rw [List.append_nil]; exact h.d k r hr, .inl rfl⟩
theorem Lg.below {w b : World} {base : Nat} {v : Value} {R : List RO} {k : Nat} {r : RO} {fv : Value} {x : List Nat} (h : Lg w base v R k r fv x) (hb : Below w.heap.size w b) : Lg b base v R k r fv x := ⟨h.rs.below hb, h.at_, h.b.ch (Ch.ofBelow (S := fun _ => False) hb) (fun _ _ => id), h.wh⟩
theorem Lg.step {w w' : World} {base : Nat} {v fv v' : Value} {R : List RO} {k y : Nat} {r : RO} {x : List Nat} (h : Lg w base v R k r fv x) (hbase : base ≤ w.heap.size)
    (hs : App2 w w' base fv v' (r.d ++ x) y) :
    Lg w' base v R k r v' (x ++ [y]) ∧ K8 w w' ∧ Below base w w' := by
  have e1 : r.d ++ (x ++ [y]) = r.d ++ x ++ [y] := by rw [List.append_assoc]
  have e2 : (r.d ++ x ++ [y]).length = (r.d ++ x).length + 1 := by rw [List.length_append]; rfl
  rcases hs with ⟨b, cap, hfv, rfl, ho, kc⟩ | ⟨ho, hb⟩
  · have hob : fv.ownBlock = some b := by rw [hfv]; rfl
    obtain ⟨l1, l2, l3⟩ := h.b.lt b hob
    refine ⟨?_, K8.of kc (fun q _ e => by rw [e]; exact l3), kc.below (fun q e => by omega) hbase⟩
    have hrow : RowM w' base (.slice (some ⟨b, 0, none⟩) ((r.d ++ x).length + 1) cap) (r.d ++ (x ++ [y])) := by
      rw [e1]; left; rw [e2]; exact ho
    rcases h.wh with hw | hw
    · -- in the row's own block
      rw [hfv, List.length_append] at hw
      simp only [Value.slice.injEq, true_and] at hw
      obtain ⟨ha, rfl⟩ := hw
      have hVb : (roV r).ownBlock = some b := by unfold roV; rw [← ha]; rfl
      refine ⟨?_, h.at_, hrow, .inl (by rw [← ha]; simp [Nat.add_assoc])⟩
      have hkc : Ch (fun q => (roV r).ownBlock = some q) w w' := kc.mono (fun q _ e => by rw [e]; exact hVb)
      have h3 := h.rs.row (r' := r) h.at_ rfl hkc (.inl (by
        unfold roV
        rw [← ha]
        have h4 := ho
        unfold OwnB at h4 ⊢
        rw [show r.d ++ x ++ [y] = r.d ++ (x ++ [y]) from e1.symm, show (r.d ++ x).length + 1 = r.d.length + (x.length + 1) by rw [List.length_append]; omega] at h4
        unfold toI at h4 ⊢
        rw [List.map_append, List.map_append] at h4
        exact owns_shorter h4 (by simp)))
      have h5 : R.set k r = R := by
        have hk := (List.getElem?_eq_some_iff.1 h.at_)
        rw [← hk.2]
        exact List.set_getElem_self hk.1
      rw [h5] at h3
      exact h3
    · obtain ⟨q1, q2⟩ := hw b hob
      refine ⟨h.rs.ch kc (fun g hg e => q1 (by rw [hg, e])) (fun i c hc g hg e => q2 i c hc (by rw [hg, e])), h.at_, hrow, .inr (fun q hq => ?_)⟩
      simp [Value.ownBlock] at hq
      subst hq
      exact ⟨q1, q2⟩
  · refine ⟨⟨h.rs.below hb, h.at_, ?_, .inr (fun q hq => ?_)⟩, K8.below hb, hb.mono hbase⟩
    · rw [e1]; left; rw [e2]; exact owns_mono ho hbase
    · have hq2 := (ho.kind q hq).1
      refine ⟨fun e => by have := (h.rs.l.kind q e).2.1; omega, fun i c hc e => by have := ((h.rs.d i c hc).lt q e).2.1; omega⟩
theorem and_1 (n : Int) : bits .and .i64 n 1 = n % 2 := by
  have h127 : (BitVec.ofInt 64 1).toNat = 2 ^ 1 - 1 := by decide
  have key : (BitVec.ofInt 64 n &&& BitVec.ofInt 64 1).toNat = (n % ((2 ^ 64 : Nat) : Int)).toNat % 2 ^ 1 := by
    rw [BitVec.toNat_and, BitVec.toNat_ofInt, h127, Nat.and_two_pow_sub_one_eq_mod]
  show IntKind.i64.wrap ((BitVec.ofInt 64 n &&& BitVec.ofInt 64 1).toNat : Nat) = n % 2
  rw [key, IntKind.wrap_i64]
  omega
end Go.Proofs.Ytpdfepnifjolkaa
