/-
  Layer 14: a table of routes in memory: a map with the prefix as its key.
-/
import Derived.Test.YtdjbfhllialinaaDoorRtFn1
import Derived.Maps.OwnSet
import Derived.DeepKeys5
namespace Go.Proofs.YtdjbfhllialinaaDoor
open Go.RowKit Go.Maps

def anyE (v : Value) : Option (DataW Value × List MemPlace) := some (.held v, [])
theorem Tryd.laidOutR : laidOutB Tryd.prog = true := by kernel_rfl
theorem Tryd.rowR : decide (27 < Tryd.prog.types.size) = true := by kernel_rfl
theorem lawR : Keyed Tryd.prog 27 := Keyed.of_law (deep_law_laid Tryd.laidOutR (m := 6) (by omega) (k := 27) (of_decide_eq_true Tryd.rowR) (by kernel_rfl) (by kernel_rfl))
theorem Tryd.cellsPf : Tryd.prog.cellsOf 27 = 18 := by kernel_rfl
theorem Tryd.cellsIPr : Tryd.prog.cellsOf 25 = 17 := by kernel_rfl
theorem Tryd.cellsAr : Tryd.prog.cellsOf 23 = 16 := by kernel_rfl
theorem Tryd.cellsIr : Tryd.prog.cellsOf 3 = 1 := by kernel_rfl
theorem Tryd.cellsBr : Tryd.prog.cellsOf 5 = 1 := by kernel_rfl
theorem Tryd.keyR : Tryd.prog.keyType 27 = true := by kernel_rfl
theorem Tryd.types3 : ∃ n, Tryd.prog.types.size = n + 4 := by
  have h : decide (4 ≤ Tryd.prog.types.size) = true := by kernel_rfl
  have := of_decide_eq_true h
  exact ⟨Tryd.prog.types.size - 4, by omega⟩
structure PV.Wf (p : PV) : Prop where
  v : (Lit.int .i64 p.V).wf = true
  n : (Lit.int .i64 p.n).wf = true
  x : ∀ i, i < 16 → p.x i < 256
theorem wf_u8 {k : Nat} (h : k < 256) : (Lit.int .u8 (k : Int)).wf = true := by
  have e1 : IntKind.u8.min = 0 := rfl
  have e2 : IntKind.u8.max = 255 := rfl
  simp [Lit.wf, e1, e2]
  omega
theorem mapM_ok {α β : Type} (f : α → Option β) (g : α → β) : ∀ l : List α, (∀ a ∈ l, f a = some (g a)) → l.mapM f = some (l.map g)
  | [], _ => rfl
  | a :: l, h => by
    rw [List.mapM_cons, h a (.head _), mapM_ok f g l (fun b hb => h b (.tail _ hb))]
    rfl
theorem kl_int (d : Nat) (a : Int) (h : (Lit.int .i64 a).wf = true) : Tryd.prog.keyLits (d + 1) 3 [.int .i64 a] = some [.int .i64 a] := by
  unfold Program.keyLits
  rw [Tryd.underlying3]
  simp [h]
theorem kl_u8 (d : Nat) (a : Nat) (h : a < 256) : Tryd.prog.keyLits (d + 1) 5 [.int .u8 (a : Int)] = some [.int .u8 (a : Int)] := by
  unfold Program.keyLits
  rw [Tryd.underlying5]
  simp [wf_u8 h]
theorem ar_part (x : Nat → Nat) (i : Nat) (h : i < 16) : ((arCells x).toList.drop (i * 1)).take 1 = [.int .u8 (x i : Nat)] := by
  have := lt20' (show i < 20 by omega)
  rcases this with rfl | rfl | rfl | rfl | rfl | rfl | rfl | rfl | rfl | rfl | rfl | rfl | rfl | rfl | rfl | rfl | rfl | rfl | rfl | rfl
  all_goals first | rfl | omega
theorem kl_ar (d : Nat) (x : Nat → Nat) (h : ∀ i, i < 16 → x i < 256) : ∃ ls, Tryd.prog.keyLits (d + 2) 23 (arCells x).toList = some ls := by
  unfold Program.keyLits
  simp only [Tryd.underlying23]
  rw [if_pos (show (arCells x).toList.length = Tryd.prog.cellsOf 23 by rw [Tryd.cellsAr]; rfl), Tryd.cellsBr]
  rw [mapM_ok _ (fun i => [Lit.int .u8 (x i : Nat)]) _ (fun i hi => by
    have hi' : i < 16 := by simpa using hi
    rw [ar_part x i hi']
    exact kl_u8 d (x i) (h i hi'))]
  exact ⟨_, rfl⟩
theorem kl_ip (d : Nat) (V : Int) (x : Nat → Nat) (hv : (Lit.int .i64 V).wf = true) (h : ∀ i, i < 16 → x i < 256) : ∃ ls, Tryd.prog.keyLits (d + 3) 25 (ipCells V x).toList = some ls := by
  obtain ⟨la, hla⟩ := kl_ar d x h
  unfold Program.keyLits
  simp only [Tryd.underlying25]
  rw [if_pos (show (ipCells V x).toList.length = Tryd.prog.cellsOf 25 ∧ _ from ⟨by rw [Tryd.cellsIPr]; rfl, by kernel_rfl⟩)]
  simp only [List.mapM_cons, List.mapM_nil, Tryd.cellsIr, Tryd.cellsAr]
  rw [show List.take 1 (List.drop 0 (ipCells V x).toList) = [.int .i64 V] from rfl, show List.take 16 (List.drop 1 (ipCells V x).toList) = (arCells x).toList from rfl, kl_int (d + 1) V hv, hla]
  exact ⟨_, rfl⟩
theorem kl_pf (d : Nat) (p : PV) (h : p.Wf) : ∃ ls, Tryd.prog.keyLits (d + 4) 27 (pfC p).toList = some ls := by
  obtain ⟨la, hla⟩ := kl_ip d p.V p.x h.v h.x
  unfold Program.keyLits
  simp only [Tryd.underlying27]
  rw [if_pos (show (pfC p).toList.length = Tryd.prog.cellsOf 27 ∧ _ from ⟨by rw [Tryd.cellsPf]; rfl, by kernel_rfl⟩)]
  simp only [List.mapM_cons, List.mapM_nil, Tryd.cellsIr, Tryd.cellsIPr]
  rw [show List.take 17 (List.drop 0 (pfC p).toList) = (ipCells p.V p.x).toList from rfl, show List.take 1 (List.drop 17 (pfC p).toList) = [.int .i64 p.n] from rfl, kl_int (d + 2) p.n h.n, hla]
  exact ⟨_, rfl⟩
theorem kv_key (p : PV) (h : p.Wf) : ∃ l, keyOf Tryd.prog 27 (.agg (pfC p)) = some l := by
  obtain ⟨N, hN⟩ := Tryd.types3
  obtain ⟨ls, hls⟩ := kl_pf (N + 1) p h
  unfold keyOf
  rw [Tryd.underlying27]
  simp only [Tryd.keyR, Value.formed, Tryd.underlying27, Tryd.cellsPf, Bool.true_and]
  rw [if_pos (show ((pfC p).size == 18) = true from rfl), hN]
  show ∃ l, Option.map _ (Tryd.prog.keyLits (N + 1 + 4) 27 (pfC p).toList) = some l
  rw [hls]
  exact ⟨_, rfl⟩
/-- two prefixes with the same values -/
def eqP (p q : PV) : Bool := p.V == q.V && same16 p.x q.x && p.n == q.n
theorem eqP_iff (p q : PV) : eqP p q = true ↔ pfC p = pfC q := by
  unfold eqP
  simp only [Bool.and_eq_true, beq_iff_eq, same16, decide_eq_true_eq, pfC]
  constructor
  · rintro ⟨⟨h1, h2⟩, h3⟩
    obtain ⟨a0, a1, a2, a3, a4, a5, a6, a7, a8, a9, a10, a11, a12, a13, a14, a15⟩ := h2
    rw [h1, h3, a0, a1, a2, a3, a4, a5, a6, a7, a8, a9, a10, a11, a12, a13, a14, a15]
  · intro h
    simp only [Array.mk.injEq, List.cons.injEq, Value.int.injEq, true_and, and_true, Int.ofNat_inj] at h
    obtain ⟨h1, a0, a1, a2, a3, a4, a5, a6, a7, a8, a9, a10, a11, a12, a13, a14, a15, h3⟩ := h
    exact ⟨⟨h1, a0, a1, a2, a3, a4, a5, a6, a7, a8, a9, a10, a11, a12, a13, a14, a15⟩, h3⟩
theorem eqP_refl (p : PV) : eqP p p = true := (eqP_iff p p).2 rfl
theorem eqP_comm (p q : PV) : eqP p q = eqP q p := by
  rw [Bool.eq_iff_iff, eqP_iff, eqP_iff]; exact eq_comm
theorem eqP_trans {p q r : PV} (h : eqP p q = true) (k : eqP q r = true) : eqP p r = true := (eqP_iff p r).2 (((eqP_iff p q).1 h).trans ((eqP_iff q r).1 k))
theorem eqP_left {p q r : PV} (h : eqP p q = true) : eqP p r = eqP q r := by
  rw [Bool.eq_iff_iff, eqP_iff, eqP_iff, (eqP_iff p q).1 h]
def fnd (R : List RV) (p : PV) : Option RV := R.find? (fun r => eqP r.p p)
theorem fnd_congr (R : List RV) {p q : PV} (h : eqP p q = true) : fnd R p = fnd R q := by
  unfold fnd
  have e : (fun r : RV => eqP r.p p) = (fun r => eqP r.p q) := by
    funext r
    rw [eqP_comm r.p p, eqP_comm r.p q]
    exact eqP_left h
  rw [e]
structure TabAt (w : World) (t M : Nat) (D : DataW Value) (R : List RV) : Prop where
  c : w.cell? ⟨t, 0, none⟩ = some (.map (some M))
  mo : w.ownsMap Tryd.prog 27 anyE M R.length D
  sz : Maps.size D = R.length
  hs : ∀ p l, keyOf Tryd.prog 27 (.agg (pfC p)) = some l → Maps.has D l = (fnd R p).isSome ∧ D.atKey l (.held (.agg (rtC rz))) = .held (.agg (rtC ((fnd R p).getD rz)))
  dj : R.Pairwise (fun a b => eqP a.p b.p = false)
  wf : ∀ r ∈ R, r.p.Wf
  ne : t ≠ M
  ks : ∀ l, Maps.has D l = true → ∃ r ∈ R, keyOf Tryd.prog 27 (.agg (pfC r.p)) = some l
theorem own_tight {w : World} {b n : Nat} {D : DataW Value} (h : w.ownsMap Tryd.prog 27 anyE b n D) : w.ownsMap Tryd.prog 27 anyE b (Maps.size D) D := by
  obtain ⟨es, clock, hb, F, hs, rfl⟩ := h
  exact ⟨es, clock, hb, F, by rw [Maps.size_eq, length_read]; exact Nat.le_refl _, rfl⟩
theorem own_ch {S : Nat → Prop} {w w' : World} {b n : Nat} {D : DataW Value} (h : w.ownsMap Tryd.prog 27 anyE b n D) (k : Ch S w w') (hS : ¬ S b) : w'.ownsMap Tryd.prog 27 anyE b n D := by
  obtain ⟨es, clock, hb, F, hs, hD⟩ := h
  exact ⟨es, clock, (k.block b (Array.getElem?_eq_some_iff.1 hb).1 hS).trans hb, F, hs, hD⟩
theorem TabAt.ch {S : Nat → Prop} {w w' : World} {t M : Nat} {D : DataW Value} {R : List RV} (h : TabAt w t M D R) (k : Ch S w w') (h1 : ¬ S t) (h2 : ¬ S M) : TabAt w' t M D R :=
  { h with c := k.cell h.c h1, mo := own_ch h.mo k h2 }
theorem TabAt.below {w w' : World} {t M : Nat} {D : DataW Value} {R : List RV} (h : TabAt w t M D R) (k : Below w.heap.size w w') : TabAt w' t M D R := h.ch (Ch.ofBelow (S := fun _ => False) k) id id
theorem TabAt.lt {w : World} {t M : Nat} {D : DataW Value} {R : List RV} (h : TabAt w t M D R) : t < w.heap.size ∧ M < w.heap.size := ⟨World.block_lt_of_cell? w _ h.c, h.mo.lt⟩
theorem key_lit {p : PV} {l : Lit} (h : keyOf Tryd.prog 27 (.agg (pfC p)) = some l) : WideAt.IsKeyLit l := lawR.key h
theorem fnd_snoc (R : List RV) (r : RV) (p : PV) : fnd (R ++ [r]) p = (fnd R p).or (if eqP r.p p then some r else none) := by
  unfold fnd
  rw [List.find?_append]
  simp [List.find?_cons]
  cases eqP r.p p <;> rfl
theorem TabAt.added {w w' : World} {t M : Nat} {D : DataW Value} {R : List RV} (h : TabAt w t M D R) (r : RV) (kl : Lit) (hk : keyOf Tryd.prog 27 (.agg (pfC r.p)) = some kl) (hn : fnd R r.p = none) (hw : r.p.Wf) (hm : w'.ownsMap Tryd.prog 27 anyE M (R.length + 1) (D.put kl (.held (.agg (rtC r))))) (k : Ch (fun q => q = M) w w') :
    TabAt w' t M (D.put kl (.held (.agg (rtC r)))) (R ++ [r]) := by
  have hl := key_lit hk
  have hd := h.mo.isMap
  have ht := h.mo.tidy lawR
  refine ⟨k.cell h.c (fun e => h.ne e), by rw [List.length_append]; exact hm, ?_, ?_, ?_, ?_, h.ne, ?_⟩
  · rw [Maps.size_put ht, (h.hs r.p kl hk).1, hn]
    simp [h.sz]
  · intro p l hp
    rw [fnd_snoc]
    by_cases e : l = kl
    · subst e
      have e2 := lawR.inj hp hk
      have e3 : pfC p = pfC r.p := by simpa using e2
      have e4 : eqP r.p p = true := (eqP_iff _ _).2 e3.symm
      have e5 : fnd R p = none := by rw [← fnd_congr R e4]; exact hn
      rw [Maps.has_put_same hd hl, Maps.atKey_put_same hd hl, e5, e4]
      simp
    · have e4 : eqP r.p p = false := by
        rw [Bool.eq_false_iff]
        intro e5
        rw [(eqP_iff _ _).1 e5] at hk
        exact e (Option.some.inj (hp.symm.trans hk))
      rw [Maps.has_put_other e, Maps.atKey_put_other e, e4]
      simpa using h.hs p l hp
  · rw [List.pairwise_append]
    refine ⟨h.dj, by simp, fun a ha b hb => ?_⟩
    simp only [List.mem_singleton] at hb
    subst hb
    unfold fnd at hn
    have := (List.find?_eq_none.1 hn) a ha
    simpa using this
  · intro q hq
    rcases List.mem_append.1 hq with e | e
    · exact h.wf q e
    · simp only [List.mem_singleton] at e; subst e; exact hw
  · intro l hl2
    by_cases e : l = kl
    · subst e; exact ⟨r, by simp, hk⟩
    · rw [Maps.has_put_other e] at hl2
      obtain ⟨q, h1, h2⟩ := h.ks l hl2
      exact ⟨q, List.mem_append_left _ h1, h2⟩
def del (R : List RV) (p : PV) : List RV := R.filter (fun r => !(eqP r.p p))
theorem fnd_del (R : List RV) (p q : PV) : fnd (del R p) q = if eqP p q then none else fnd R q := by
  induction R with
  | nil => simp [fnd, del]
  | cons r R ih =>
    unfold fnd del at ih ⊢
    simp only [List.filter_cons, List.find?_cons]
    by_cases e : eqP r.p p = true
    · simp only [e, Bool.not_true, Bool.false_eq_true, if_false]
      rw [ih]
      by_cases e2 : eqP p q = true
      · rw [e2]; simp
      · rw [if_neg e2, if_neg e2]
        have : eqP r.p q = false := by rw [eqP_left e]; simpa using e2
        rw [this]
    · have e' : eqP r.p p = false := by simpa using e
      simp only [e', Bool.not_false, if_true, List.find?_cons]
      cases e3 : eqP r.p q with
      | true =>
        have : eqP p q = false := by
          rw [Bool.eq_false_iff]
          intro e4
          rw [eqP_comm p q] at e4
          have := eqP_trans e3 e4
          rw [e'] at this
          cases this
        rw [this]; simp
      | false => exact ih
theorem len_del (R : List RV) (p : PV) (h : R.Pairwise (fun a b => eqP a.p b.p = false)) : (del R p).length + (if (fnd R p).isSome then 1 else 0) = R.length := by
  induction R with
  | nil => simp [del, fnd]
  | cons r R ih =>
    obtain ⟨h1, h2⟩ := List.pairwise_cons.1 h
    have ih' := ih h2
    unfold del fnd at ih' ⊢
    simp only [List.filter_cons, List.find?_cons]
    by_cases e : eqP r.p p = true
    · simp only [e, Bool.not_true, Bool.false_eq_true, if_false, Option.isSome_some, if_true, List.length_cons]
      have : R.filter (fun r => !(eqP r.p p)) = R := by
        rw [List.filter_eq_self]
        intro a ha
        have := h1 a ha
        rw [eqP_left e, eqP_comm] at this
        simp [this]
      rw [this]
    · have e' : eqP r.p p = false := by simpa using e
      simp only [e', Bool.not_false, if_true, List.length_cons]
      omega
theorem TabAt.dropped {w w' : World} {t M : Nat} {D : DataW Value} {R : List RV} (h : TabAt w t M D R) (p : PV) (kl : Lit) (hk : keyOf Tryd.prog 27 (.agg (pfC p)) = some kl) (hm : w'.ownsMap Tryd.prog 27 anyE M R.length (D.del kl)) (k : Ch (fun q => q = M) w w') :
    TabAt w' t M (D.del kl) (del R p) := by
  have ht := h.mo.tidy lawR
  have hsz : Maps.size (D.del kl) = (del R p).length := by
    have h1 := Maps.size_del (k := kl) ht
    have h2 := len_del R p h.dj
    rw [(h.hs p kl hk).1, h.sz] at h1
    omega
  refine ⟨k.cell h.c (fun e => h.ne e), by rw [← hsz]; exact own_tight hm, hsz, ?_, ?_, ?_, h.ne, ?_⟩
  · intro q l hq
    rw [fnd_del]
    by_cases e : l = kl
    · subst e
      have e2 := lawR.inj hq hk
      have e3 : pfC q = pfC p := by simpa using e2
      have e4 : eqP p q = true := (eqP_iff _ _).2 e3.symm
      rw [Maps.has_del_same, Maps.atKey_del_same, if_pos e4]
      simp
    · have e4 : eqP p q = false := by
        rw [Bool.eq_false_iff]
        intro e5
        rw [(eqP_iff _ _).1 e5] at hk
        exact e (Option.some.inj (hq.symm.trans hk))
      rw [Maps.has_del_other e, Maps.atKey_del_other e, if_neg (by rw [e4]; simp)]
      exact h.hs q l hq
  · exact h.dj.sublist List.filter_sublist
  · intro r hr
    exact h.wf r (List.mem_filter.1 hr).1
  · intro l hl2
    by_cases e : l = kl
    · subst e; rw [Maps.has_del_same] at hl2; cases hl2
    · rw [Maps.has_del_other e] at hl2
      obtain ⟨q, h1, h2⟩ := h.ks l hl2
      refine ⟨q, List.mem_filter.2 ⟨h1, ?_⟩, h2⟩
      have : eqP q.p p = false := by
        rw [Bool.eq_false_iff]
        intro e5
        rw [← (eqP_iff _ _).1 e5] at hk
        exact e (Option.some.inj (h2.symm.trans hk))
      rw [this]
      rfl
end Go.Proofs.YtdjbfhllialinaaDoor
