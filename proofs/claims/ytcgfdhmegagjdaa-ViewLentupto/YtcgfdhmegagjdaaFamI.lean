/-
  A family of rows of numbers: written full with a mark of its own, lengthened with it; several slices of one block.
-/
import Derived.Test.YtcgfdhmegagjdaaAs
namespace Go.Proofs.Ytcgfdhmegagjdaa.Fi
open Go.RowKit

/-- what stands at each place of the i-th list -/
def mkAt (i : Nat) : Int := -1 - (i : Int)
def mks (n i len : Nat) : List Value := (List.range len).map (fun _ => .int .i64 (mkAt (i + (n - n))))
theorem mks_len (n i len : Nat) : (mks n i len).length = len := by simp [mks]
theorem mks_get (n i len j : Nat) (h : j < len) : (mks n i len)[j]? = some (.int .i64 (mkAt i)) := by simp [mks, h]
theorem mks_add (n i len T : Nat) : mks n i (len + T) = mks n i len ++ List.replicate T (.int .i64 (mkAt i)) := by
  apply List.ext_getElem?
  intro j
  by_cases h1 : j < len
  · rw [mks_get _ _ _ _ (by omega), List.getElem?_append_left (by rw [mks_len]; exact h1), mks_get _ _ _ _ h1]
  · rw [List.getElem?_append_right (by rw [mks_len]; omega), mks_len]
    by_cases h2 : j < len + T
    · rw [mks_get _ _ _ _ h2, List.getElem?_replicate, if_pos (by omega)]
    · rw [List.getElem?_eq_none (by rw [mks_len]; omega), List.getElem?_replicate, if_neg (by omega)]
theorem take_set {α : Type} (m l : List α) (k : Nat) (h : m.length = l.length) (hk : k < l.length) : (m.take k ++ l.drop k).set k (m[k]'(by omega)) = m.take (k + 1) ++ l.drop (k + 1) := by
  rw [List.set_append_right _ _ (by simp; omega), List.length_take, Nat.min_eq_left (by omega), Nat.sub_self, List.drop_eq_getElem_cons hk, List.set_cons_zero, List.take_succ_eq_append_getElem (by omega), List.append_assoc]
  rfl

/-- a slice of the i-th list's -/
structure Sl where
  i : Nat
  v : Value
  len : Nat
structure Fam (w0 w : World) (base : Nat) (n : Nat → Nat) (S : Nat → Prop) (lv : Value) (N : Nat) (V : Nat → Value) (F : List Sl) : Prop where
  rows : ∀ r ∈ F, w.ownsRow base 3 1 r.v r.len (mks (n r.i) r.i r.len)
  dis : ∀ r ∈ F, ∀ s ∈ F, r.i ≠ s.i → ∀ q, r.v.ownBlock = some q → s.v.ownBlock ≠ some q
  loc : ∀ r ∈ F, ∀ q, r.v.ownBlock = some q → S q ∨ w0.heap.size ≤ q
  lst : w.ownsRow base 23 1 lv N ((List.range N).map V)
  ch : Ch S w0 w
theorem Fam.below {w0 w w' : World} {base : Nat} {n : Nat → Nat} {S : Nat → Prop} {lv : Value} {N : Nat} {V : Nat → Value} {F : List Sl} (h : Fam w0 w base n S lv N V F) (k : Below w.heap.size w w') : Fam w0 w' base n S lv N V F :=
  ⟨fun r hr => (Ch.ofBelow (S := none_) k).owns (h.rows r hr) (fun _ _ => id), h.dis, h.loc, (Ch.ofBelow (S := none_) k).owns h.lst (fun _ _ => id), h.ch.trans (Ch.ofBelow (S := none_) k) (fun _ _ s => s.elim)⟩
theorem apart3 {w : World} {B B' : Nat} {e e' : TypeId} {v v' : Value} {n n' : Nat} {xs xs' : List Value} (h : w.ownsRow B e 1 v n xs) (h' : w.ownsRow B' e' 1 v' n' xs') (hne : e ≠ e') : ∀ g, v.ownBlock = some g → ¬ v'.ownBlock = some g := by
  intro g hg hg'
  rcases apart h h' hne with e | e
  · rw [hg] at e; cases e
  · exact e (by rw [hg, hg'])
/-- a list of slices of the call's own is lengthened -/
theorem Fam.more {w0 w w' : World} {base : Nat} {n : Nat → Nat} {S : Nat → Prop} {lv : Value} {N : Nat} {V : Nat → Value} {F : List Sl} {mv : Value} {m : Nat} {xs : List Value} (h : Fam w0 w base n S lv N V F) (hm : w.ownsRow w0.heap.size 23 1 mv m xs) (hd : ∀ q, mv.ownBlock = some q → lv.ownBlock ≠ some q) (k : w.grownBy w' mv.ownBlock) : Fam w0 w' base n S lv N V F :=
  ⟨fun r hr => (Ch.ofGrown k).owns (h.rows r hr) (apart3 (h.rows r hr) hm (by decide)), h.dis, h.loc, (Ch.ofGrown k).owns h.lst (fun g hg e => hd g e hg), h.ch.trans (Ch.ofGrown k) (fun x hx s => by have := (hm.lt x s).1; omega)⟩
theorem Fam.sub {w0 w : World} {base : Nat} {n : Nat → Nat} {S : Nat → Prop} {lv : Value} {N : Nat} {V : Nat → Value} {F G : List Sl} (h : Fam w0 w base n S lv N V F) (hG : ∀ r ∈ G, r ∈ F) : Fam w0 w base n S lv N V G :=
  ⟨fun r hr => h.rows r (hG r hr), fun r hr s hs => h.dis r (hG r hr) s (hG s hs), fun r hr => h.loc r (hG r hr), h.lst, h.ch⟩
/-- one slice is lengthened in its own block -/
theorem Fam.inPlace {w0 w : World} {base : Nat} {n : Nat → Nat} {S : Nat → Prop} {lv : Value} {N : Nat} {V : Nat → Value} {F : List Sl} (h : Fam w0 w base n S lv N V F) (i g L cap T : Nat) (hr : (⟨i, .slice (some ⟨g, 0, none⟩) L cap, L⟩ : Sl) ∈ F) (hT : L + T ≤ cap) (cur : Array Value) (hcur : w.heap[g]? = some (.cells cur 3 (0, 0))) (hcs : cur.size = cap) :
    Fam w0 (w.setRow g (cur.toList.take L ++ List.replicate T (Value.int .i64 (mkAt i)) ++ cur.toList.drop (L + T)).toArray) base n S lv N V (⟨i, .slice (some ⟨g, 0, none⟩) (L + T) cap, L + T⟩ :: F) := by
  obtain ⟨w', hw'⟩ : ∃ w', w' = w.setRow g (cur.toList.take L ++ List.replicate T (Value.int .i64 (mkAt i)) ++ cur.toList.drop (L + T)).toArray := ⟨_, rfl⟩
  have hg' : w'.heap[g]? = some (.cells (cur.toList.take L ++ List.replicate T (Value.int .i64 (mkAt i)) ++ cur.toList.drop (L + T)).toArray 3 (0, 0)) := by rw [hw']; exact setRow_heap w g cur _ _ _ hcur
  have hch : Ch (fun x => x = g) w w' := by rw [hw']; exact ⟨rfl, rfl, rfl, by simp, fun k _ hk => setRow_other w g k _ hk⟩
  rw [← hw']
  have hown := h.rows _ hr
  have hcap : cap ≤ maxLen ∧ base ≤ g := by
    rcases hown.2 with ⟨e, _⟩ | ⟨g2, c2, cur2, e, hb, _, _, hc, _⟩
    · simp at e
    · simp only [Value.slice.injEq, Option.some.injEq, Addr.mk.injEq, and_true, true_and] at e
      obtain ⟨rfl, rfl⟩ := e
      exact ⟨hc, hb⟩
  have hcur0 : ∀ j, j < L → cur[j]? = some (.int .i64 (mkAt i)) := by
    intro j hj
    have h1 := hown.cellAt j (by simpa using hj)
    have h2 : w.cell? ⟨g, j, none⟩ = cur[j]? := by simp [World.cell?, hcur]
    rw [← h2, h1]
    exact mks_get _ _ _ _ hj
  -- what stands there now
  have hnew : ∀ j, j < cap → (∀ (hj : L + T ≤ j), (cur.toList.take L ++ List.replicate T (Value.int .i64 (mkAt i)) ++ cur.toList.drop (L + T))[j]? = cur[j]?) ∧ (j < L + T → (cur.toList.take L ++ List.replicate T (Value.int .i64 (mkAt i)) ++ cur.toList.drop (L + T))[j]? = some (.int .i64 (mkAt i))) := by
    intro j hj
    have l1 : (cur.toList.take L).length = L := by simp [hcs]; omega
    have l2 : (cur.toList.take L ++ List.replicate T (Value.int .i64 (mkAt i))).length = L + T := by simp [hcs]; omega
    refine ⟨fun hj2 => ?_, fun hj2 => ?_⟩
    · rw [List.getElem?_append_right (by omega), l2, List.getElem?_drop, show L + T + (j - (L + T)) = j by omega]
      simp
    · rw [List.getElem?_append_left (by omega)]
      by_cases h1 : j < L
      · rw [List.getElem?_append_left (by omega), List.getElem?_take, if_pos h1]
        rw [← hcur0 j h1]; simp
      · rw [List.getElem?_append_right (by omega), l1, List.getElem?_replicate, if_pos (by omega)]
  have size' : (cur.toList.take L ++ List.replicate T (Value.int .i64 (mkAt i)) ++ cur.toList.drop (L + T)).length = cap := by simp [hcs]; omega
  have mk : ∀ len, len ≤ cap → (∀ j, j < len → (cur.toList.take L ++ List.replicate T (Value.int .i64 (mkAt i)) ++ cur.toList.drop (L + T))[j]? = some (.int .i64 (mkAt i))) → w'.ownsRow base 3 1 (.slice (some ⟨g, 0, none⟩) len cap) len (mks (n i) i len) := by
    intro len hlen hc
    refine ⟨by rw [mks_len, Nat.mul_one], .inr ⟨g, cap, _, rfl, hcap.2, hg', hlen, hcap.1, by simpa using size', ?_⟩⟩
    rw [Nat.mul_one]
    apply List.ext_getElem?
    intro j
    rw [List.getElem?_take]
    by_cases hj : j < len
    · rw [if_pos hj, mks_get _ _ _ _ hj]
      exact hc j hj
    · rw [if_neg hj, List.getElem?_eq_none (by rw [mks_len]; omega)]
  refine ⟨?_, ?_, ?_, ?_, ?_⟩
  · intro r hr'
    rcases List.mem_cons.1 hr' with rfl | hr'
    · exact mk (L + T) hT (fun j hj => (hnew j (by omega)).2 hj)
    · have ho := h.rows r hr'
      by_cases hb : r.v.ownBlock = some g
      · have hri : r.i = i := by
          by_cases e : r.i = i
          · exact e
          · exact absurd rfl (h.dis r hr' _ hr e g hb)
        rcases ho.2 with ⟨e, _⟩ | ⟨g2, c2, cur2, e, hb2, hh2, hl2, hc2, hs2, _⟩
        · rw [e] at hb; simp [Value.ownBlock] at hb
        · have eg : g2 = g := by rw [e] at hb; simpa [Value.ownBlock] using hb
          subst eg
          rw [hcur] at hh2
          simp only [Option.some.injEq, Obj.cells.injEq, and_true] at hh2
          subst hh2
          have ec : c2 = cap := by omega
          subst ec
          rw [hri, e]
          refine mk r.len hl2 (fun j hj => ?_)
          by_cases hj2 : j < L + T
          · exact (hnew j (by omega)).2 hj2
          · rw [(hnew j (by omega)).1 (by omega)]
            have ho' := ho
            rw [e, hri] at ho'
            have h1 := ho'.cellAt j (by simpa using hj)
            have h2 : w.cell? ⟨g2, j, none⟩ = cur[j]? := by simp [World.cell?, hcur]
            rw [← h2, h1]
            exact mks_get _ _ _ _ hj
      · exact hch.owns ho (fun q hq e => hb (by rw [hq, e]))
  · intro r hr' s hs' hne q hq
    rcases List.mem_cons.1 hr' with rfl | hr' <;> rcases List.mem_cons.1 hs' with rfl | hs'
    · exact absurd rfl hne
    · exact h.dis _ hr s hs' hne q hq
    · exact h.dis r hr' _ hr hne q hq
    · exact h.dis r hr' s hs' hne q hq
  · intro r hr' q hq
    rcases List.mem_cons.1 hr' with rfl | hr'
    · exact h.loc _ hr q hq
    · exact h.loc r hr' q hq
  · exact hch.owns h.lst (fun q hq e => apart3 h.lst (h.rows _ hr) (by decide) q hq (by rw [e]; rfl))
  · refine h.ch.trans hch (fun x hx e => ?_)
    rcases h.loc _ hr x (by rw [e]; rfl) with s | s
    · exact s
    · omega
/-- one slice is lengthened in a new block -/
theorem Fam.fresh {w0 w w' : World} {base : Nat} {n : Nat → Nat} {S : Nat → Prop} {lv : Value} {N : Nat} {V : Nat → Value} {F : List Sl} (h : Fam w0 w base n S lv N V F) (i L : Nat) (v : Value) (ho : w'.ownsRow base 3 1 v L (mks (n i) i L)) (hg : w.grownBy w' none) (hq : ∀ q, v.ownBlock = some q → w.heap.size ≤ q) :
    Fam w0 w' base n S lv N V (⟨i, v, L⟩ :: F) := by
  have hk := Ch.ofGrown hg
  have hsz := h.ch.size
  refine ⟨?_, ?_, ?_, hk.owns h.lst (fun _ _ e => by cases e), h.ch.trans hk (fun _ _ e => by cases e)⟩
  · intro r hr
    rcases List.mem_cons.1 hr with rfl | hr
    · exact ho
    · exact hk.owns (h.rows r hr) (fun _ _ e => by cases e)
  · intro r hr s hs hne q hq' hq2
    rcases List.mem_cons.1 hr with rfl | hr <;> rcases List.mem_cons.1 hs with rfl | hs
    · exact hne rfl
    · have h1 := hq q hq'
      have h2 := ((h.rows s hs).lt q hq2).2
      omega
    · have h1 := hq q hq2
      have h2 := ((h.rows r hr).lt q hq').2
      omega
    · exact h.dis r hr s hs hne q hq' hq2
  · intro r hr q hq'
    rcases List.mem_cons.1 hr with rfl | hr
    · have := hq q hq'
      exact .inr (by omega)
    · exact h.loc r hr q hq'
/-- append of T marks to a slice of the family -/
theorem append_fam {ops : Array Oper} {rest : List Oper} {o : Oper} {a : Act} {Q : Exit → Act → World → Prop} (hgd : o.guard = none) (s x : Operand)
    (hop : o.op = .call { callee := .builtin .append, args := #[s, x], argTypes := #[23, 23] })
    {w0 w : World} {base : Nat} {n : Nat → Nat} {S : Nat → Prop} {lv : Value} {N : Nat} {V : Nat → Value} {F : List Sl} (h : Fam w0 w base n S lv N V F) (i L T : Nat) (v : Value) (hr : (⟨i, v, L⟩ : Sl) ∈ F) (hLb : L + T ≤ 4000000) (hbase : base ≤ w.heap.size)
    (hs : a.eval s = v) (ad : Addr) (c : Nat) (hx : a.eval x = .slice (some ad) T c) (hnews : ∀ j, j < T → w.cell? (ad.add j) = some (.int .i64 (mkAt i)))
    (hk : ∀ v' w', Fam w0 w' base n S lv N V (⟨i, v', L + T⟩ :: F) → Ch (fun x => v.ownBlock = some x) w w' → wpList Try.prog ops Q rest (a.put o.dst v') w') : wpList Try.prog ops Q (o :: rest) a w := by
  obtain ⟨i0, hi, hz0, hz1, hz2⟩ := info_parts Try.infoInt
  have hown := h.rows _ hr
  have hnw : ∀ j u, (List.replicate T (Value.int .i64 (mkAt i)))[j]? = some u → w.cell? (ad.add j) = some u := by
    intro j u hj
    rw [List.getElem?_replicate] at hj
    split at hj
    · rename_i hjT
      simp only [Option.some.injEq] at hj
      rw [← hj]; exact hnews j hjT
    · cases hj
  have h1 : ∀ u ∈ List.replicate T (Value.int .i64 (mkAt i)), u.oneCell' = true := by
    intro u hu; rw [List.mem_replicate] at hu; rw [hu.2]; rfl
  rcases hown.2 with ⟨e, e2⟩ | ⟨g, cap, cur, e, hbg, hg, hnc, hcm, hcs, htake⟩
  · have e' : v = .slice none 0 0 := e
    have e2' : L = 0 := e2
    subst e' e2'
    refine wpList_append_own_at w hgd s x 23 hop w.heap.size 3 i0 (.int .i64 0) 1 8 Try.underlying23 hi hz0 hz1 hz2 rfl (by decide) (.slice none 0 0) 0 [] hs (World.ownsRow_nil _ _ _ _) ad T c (List.replicate T (Value.int .i64 (mkAt i))) hx (by simp) hnw h1 (by unfold maxLen; omega) (by omega) (Nat.le_refl _) ?_
    intro v' w' r1 r2 _ _
    refine hk v' w' (h.fresh i (0 + T) v' ?_ r2 (fun q hq => (r1.lt q hq).1)) ((Ch.ofGrown r2).mono (fun _ _ e => by cases e))
    rw [mks_add]
    exact owns_mono r1 hbase
  · have e' : v = .slice (some ⟨g, 0, none⟩) L cap := e
    subst e'
    by_cases hroom : L + T ≤ cap
    · refine wpList_plain hgd fun K hK => ?_
      have hrun := run_append_room (P := Try.prog) w 23 o.type 3 i0 Try.underlying23 hi g L cap cur hg ad T c (List.replicate T (Value.int .i64 (mkAt i))) (by simp [hz1]) hnw h1 hroom (by simp [hz1]; omega)
      unfold Oper.wp
      simp only [hz1, Nat.mul_one, List.length_replicate] at hrun
      simp [execOp, hop, resolve, invoke, builtin, hs, hx, hrun, Result.andThen]
      have := h.inPlace i g L cap T hr hroom cur hg (by simpa using hcs)
      exact hK _ _ (hk _ _ (by simpa using this) ⟨rfl, rfl, rfl, by simp, fun k _ hk' => setRow_other w g k _ (fun e => hk' (by rw [e]; rfl))⟩)
    · refine wpList_plain hgd fun K hK => ?_
      obtain ⟨v', w', hrun, r1, r2⟩ := run_append_arg_grows (P := Try.prog) w 23 o.type 3 i0 (.int .i64 0) 1 8 Try.underlying23 hi hz0 hz1 hz2 rfl (by decide) ⟨g, 0, none⟩ L cap (mks (n i) i L) hown.1 (hown.cells rfl) ad T c (List.replicate T (Value.int .i64 (mkAt i))) (by simp) hnw (by omega) (by unfold maxLen; omega) (by omega)
      unfold Oper.wp
      simp [execOp, hop, resolve, invoke, builtin, hs, hx, hrun, Result.andThen]
      refine hK _ _ (hk v' w' (h.fresh i (L + T) v' ?_ r2 (fun q hq => (r1.lt q hq).1)) ((Ch.ofGrown r2).mono (fun _ _ e => by cases e)))
      rw [mks_add]
      exact owns_mono r1 hbase
theorem lst_cell' {w : World} {base lb cap : Nat} {N : Nat} {V : Nat → Value} (h : w.ownsRow base 23 1 (.slice (some ⟨lb, 0, none⟩) N cap) N ((List.range N).map V)) (i : Nat) (hi : i < N) : w.cell? ⟨lb, i, none⟩ = some (V i) := by
  rw [h.cellAt i (by omega)]
  simp [hi]
/-- the rows while they are written full: those ahead of i, the i-th up to k -/
def fc (n : Nat → Nat) (X : Nat → List Value) (i k j : Nat) : List Value := if j < i then mks (n j) j (n j) else if j = i then (mks (n i) i (n i)).take k ++ (X i).drop k else X j
theorem fc_zero (n : Nat → Nat) (X : Nat → List Value) (j : Nat) : fc n X 0 0 j = X j := by
  unfold fc
  by_cases h : j = 0
  · subst h; simp
  · simp [h]
theorem fc_next (n : Nat → Nat) (X : Nat → List Value) (i j : Nat) (h : (X i).length = n i) : fc n X i (n i) j = fc n X (i + 1) 0 j := by
  unfold fc
  by_cases h1 : j < i
  · simp [h1, show j < i + 1 by omega]
  · by_cases h2 : j = i
    · subst h2
      simp [List.take_of_length_le (show (mks (n j) j (n j)).length ≤ n j by rw [mks_len]; exact Nat.le_refl _), List.drop_eq_nil_of_le (show (X j).length ≤ n j by omega)]
    · by_cases h3 : j = i + 1
      · subst h3; simp [h1]
      · simp [h1, h2, h3, show ¬ j < i + 1 by omega]
theorem fc_set (n : Nat → Nat) (X : Nat → List Value) (i k : Nat) (h : (X i).length = n i) (hk : k < n i) : (fc n X i k i).set k (.int .i64 (mkAt i)) = fc n X i (k + 1) i := by
  have e : ∀ k, fc n X i k i = (mks (n i) i (n i)).take k ++ (X i).drop k := fun k => by simp [fc]
  rw [e, e]
  have := take_set (mks (n i) i (n i)) (X i) k (by rw [mks_len, h]) (by omega)
  rw [← this]
  congr 1
  simp [mks]
theorem fc_other (n : Nat → Nat) (X : Nat → List Value) (i k j : Nat) (h : j ≠ i) : fc n X i (k + 1) j = fc n X i k j := by
  unfold fc; simp [h]
/-- while the rows are written full -/
structure Fill (w0 w : World) (base : Nat) (n : Nat → Nat) (S : Nat → Prop) (lv : Value) (N : Nat) (V : Nat → Value) (C : Nat → List Value) : Prop where
  rows : ∀ j, j < N → w.ownsRow base 3 1 (V j) (n j) (C j)
  lst : w.ownsRow base 23 1 lv N ((List.range N).map V)
  ch : Ch S w0 w
theorem Fill.store {w0 w : World} {base : Nat} {n : Nat → Nat} {S : Nat → Prop} {lv : Value} {N : Nat} {V : Nat → Value} {X : Nat → List Value} {i k g c : Nat} (h : Fill w0 w base n S lv N V (fc n X i k)) (hi : i < N) (hX : (X i).length = n i) (hk : k < n i) (hV : V i = .slice (some ⟨g, 0, none⟩) (n i) c) (hS : S g)
    (dis : ∀ i j, i < N → j < N → i ≠ j → ∀ q, (V i).ownBlock = some q → (V j).ownBlock ≠ some q) : Fill w0 (w.setCell ⟨g, k, none⟩ (.int .i64 (mkAt i))) base n S lv N V (fc n X i (k + 1)) := by
  have hr := h.rows i hi
  have hr' := hr
  rw [hV] at hr'
  have hb : (V i).ownBlock = some g := by rw [hV]; rfl
  obtain ⟨h1, h2⟩ := hr'.stored k (.int .i64 (mkAt i))
  rw [fc_set n X i k hX hk] at h1
  have hc := Ch.ofGrown h2
  refine ⟨fun j hj => ?_, hc.owns h.lst (fun q hq e => ?_), h.ch.trans hc (fun x _ e => ?_)⟩
  · by_cases e : j = i
    · subst e; rw [hV]; exact h1
    · rw [fc_other _ _ _ _ _ e]
      exact hc.owns (h.rows j hj) (fun q hq e' => by
        simp only [Option.some.injEq] at e'
        subst e'
        exact dis j i hj hi e _ hq hb)
  · simp only [Option.some.injEq] at e
    subst e
    exact apart3 h.lst hr (by decide) _ hq hb
  · simp only [Option.some.injEq] at e
    subst e; exact hS
end Go.Proofs.Ytcgfdhmegagjdaa.Fi
