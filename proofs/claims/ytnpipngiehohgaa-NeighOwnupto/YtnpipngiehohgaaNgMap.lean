/-
  Layer 15: the map of a cache: a key, and where its entry lies.
-/
import Derived.Test.YtnpipngiehohgaaNgSt
import Derived.Maps.OwnSet
import Derived.DeepKeys5
namespace Go.Proofs.Ytnpipngiehohgaa
open Go.RowKit Go.Maps

def anyE (v : Value) : Option (DataW Value × List MemPlace) := some (.held v, [])
theorem Try.laidOutR : laidOutB Try.prog = true := by kernel_rfl
theorem Try.rowR : decide (98 < Try.prog.types.size) = true := by kernel_rfl
theorem lawR : Keyed Try.prog 98 := Keyed.of_law (deep_law_laid Try.laidOutR (m := 6) (by omega) (k := 98) (of_decide_eq_true Try.rowR) (by kernel_rfl) (by kernel_rfl))
theorem Try.cellsPf : Try.prog.cellsOf 98 = 18 := by kernel_rfl
theorem Try.cellsIPr : Try.prog.cellsOf 31 = 17 := by kernel_rfl
theorem Try.cellsAr : Try.prog.cellsOf 29 = 16 := by kernel_rfl
theorem Try.cellsIr : Try.prog.cellsOf 3 = 1 := by kernel_rfl
theorem Try.cellsBr : Try.prog.cellsOf 5 = 1 := by kernel_rfl
theorem Try.keyR : Try.prog.keyType 98 = true := by kernel_rfl
theorem Try.types3 : ∃ n, Try.prog.types.size = n + 4 := by
  have h : decide (4 ≤ Try.prog.types.size) = true := by kernel_rfl
  have := of_decide_eq_true h
  exact ⟨Try.prog.types.size - 4, by omega⟩
structure KV.Wf (p : KV) : Prop where
  v : (Lit.int .i64 p.V).wf = true
  n : (Lit.int .i64 p.pt).wf = true
  x : ∀ i, i < 16 → p.x i < 256
theorem wf_u8 {k : Nat} (h : k < 256) : (Lit.int .u8 (k : Int)).wf = true := by
  have e1 : IntKind.u8.min = 0 := rfl
  have e2 : IntKind.u8.max = 255 := rfl
  simp [Lit.wf, e1, e2]
  omega
theorem mapM_ok {α β : Type} (f : α → Option β) (g : α → β) : ∀ l : List α, (∀ a ∈ l, f a = some (g a)) → l.mapM f = some (l.map g)
  | [], _ => rfl
  | a :: l, h => by
    rw [List.mapM_cons, h a (.head _), mapM_ok f g l (fun b hb => h b (.tail _ hb))]
    rfl
theorem kl_int (d : Nat) (a : Int) (h : (Lit.int .i64 a).wf = true) : Try.prog.keyLits (d + 1) 3 [.int .i64 a] = some [.int .i64 a] := by
  unfold Program.keyLits
  rw [Try.underlying3]
  simp [h]
theorem kl_u8 (d : Nat) (a : Nat) (h : a < 256) : Try.prog.keyLits (d + 1) 5 [.int .u8 (a : Int)] = some [.int .u8 (a : Int)] := by
  unfold Program.keyLits
  rw [Try.underlying5]
  simp [wf_u8 h]
theorem ar_part (x : Nat → Nat) (i : Nat) (h : i < 16) : ((arCells x).toList.drop (i * 1)).take 1 = [.int .u8 (x i : Nat)] := by
  have := lt20' (show i < 20 by omega)
  rcases this with rfl | rfl | rfl | rfl | rfl | rfl | rfl | rfl | rfl | rfl | rfl | rfl | rfl | rfl | rfl | rfl | rfl | rfl | rfl | rfl
  all_goals first | rfl | omega
theorem kl_ar (d : Nat) (x : Nat → Nat) (h : ∀ i, i < 16 → x i < 256) : ∃ ls, Try.prog.keyLits (d + 2) 29 (arCells x).toList = some ls := by
  unfold Program.keyLits
  simp only [Try.underlying29]
  rw [if_pos (show (arCells x).toList.length = Try.prog.cellsOf 29 by rw [Try.cellsAr]; rfl), Try.cellsBr]
  rw [mapM_ok _ (fun i => [Lit.int .u8 (x i : Nat)]) _ (fun i hi => by
    have hi' : i < 16 := by simpa using hi
    rw [ar_part x i hi']
    exact kl_u8 d (x i) (h i hi'))]
  exact ⟨_, rfl⟩
theorem kl_ip (d : Nat) (V : Int) (x : Nat → Nat) (hv : (Lit.int .i64 V).wf = true) (h : ∀ i, i < 16 → x i < 256) : ∃ ls, Try.prog.keyLits (d + 3) 31 (ipCells V x).toList = some ls := by
  obtain ⟨la, hla⟩ := kl_ar d x h
  unfold Program.keyLits
  simp only [Try.underlying31]
  rw [if_pos (show (ipCells V x).toList.length = Try.prog.cellsOf 31 ∧ _ from ⟨by rw [Try.cellsIPr]; rfl, by kernel_rfl⟩)]
  simp only [List.mapM_cons, List.mapM_nil, Try.cellsIr, Try.cellsAr]
  rw [show List.take 1 (List.drop 0 (ipCells V x).toList) = [.int .i64 V] from rfl, show List.take 16 (List.drop 1 (ipCells V x).toList) = (arCells x).toList from rfl, kl_int (d + 1) V hv, hla]
  exact ⟨_, rfl⟩
theorem kl_pf (d : Nat) (p : KV) (h : p.Wf) : ∃ ls, Try.prog.keyLits (d + 4) 98 (kC p).toList = some ls := by
  obtain ⟨la, hla⟩ := kl_ip d p.V p.x h.v h.x
  unfold Program.keyLits
  simp only [Try.underlying98]
  rw [if_pos (show (kC p).toList.length = Try.prog.cellsOf 98 ∧ _ from ⟨by rw [Try.cellsPf]; rfl, by kernel_rfl⟩)]
  simp only [List.mapM_cons, List.mapM_nil, Try.cellsIr, Try.cellsIPr]
  rw [show List.take 1 (List.drop 0 (kC p).toList) = [.int .i64 p.pt] from rfl, show List.take 17 (List.drop 1 (kC p).toList) = (ipCells p.V p.x).toList from rfl, kl_int (d + 2) p.pt h.n, hla]
  exact ⟨_, rfl⟩
theorem kv_key (p : KV) (h : p.Wf) : ∃ l, keyOf Try.prog 98 (.agg (kC p)) = some l := by
  obtain ⟨N, hN⟩ := Try.types3
  obtain ⟨ls, hls⟩ := kl_pf (N + 1) p h
  unfold keyOf
  rw [Try.underlying98]
  simp only [Try.keyR, Value.formed, Try.underlying98, Try.cellsPf, Bool.true_and]
  rw [if_pos (show ((kC p).size == 18) = true from rfl), hN]
  show ∃ l, Option.map _ (Try.prog.keyLits (N + 1 + 4) 98 (kC p).toList) = some l
  rw [hls]
  exact ⟨_, rfl⟩
/-- two keys with the same values -/
def eqP (p q : KV) : Bool := p.pt == q.pt && p.V == q.V && same16 p.x q.x
theorem eqP_iff (p q : KV) : eqP p q = true ↔ kC p = kC q := by
  unfold eqP
  simp only [Bool.and_eq_true, beq_iff_eq, same16, decide_eq_true_eq, kC]
  constructor
  · rintro ⟨⟨h3, h1⟩, h2⟩
    obtain ⟨a0, a1, a2, a3, a4, a5, a6, a7, a8, a9, a10, a11, a12, a13, a14, a15⟩ := h2
    rw [h1, h3, a0, a1, a2, a3, a4, a5, a6, a7, a8, a9, a10, a11, a12, a13, a14, a15]
  · intro h
    simp only [Array.mk.injEq, List.cons.injEq, Value.int.injEq, true_and, and_true, Int.ofNat_inj] at h
    obtain ⟨h3, h1, a0, a1, a2, a3, a4, a5, a6, a7, a8, a9, a10, a11, a12, a13, a14, a15⟩ := h
    exact ⟨⟨h3, h1⟩, a0, a1, a2, a3, a4, a5, a6, a7, a8, a9, a10, a11, a12, a13, a14, a15⟩
theorem eqP_refl (p : KV) : eqP p p = true := (eqP_iff p p).2 rfl
theorem eqP_comm (p q : KV) : eqP p q = eqP q p := by
  rw [Bool.eq_iff_iff, eqP_iff, eqP_iff]; exact eq_comm
theorem eqP_trans {p q r : KV} (h : eqP p q = true) (k : eqP q r = true) : eqP p r = true := (eqP_iff p r).2 (((eqP_iff p q).1 h).trans ((eqP_iff q r).1 k))
theorem eqP_left {p q r : KV} (h : eqP p q = true) : eqP p r = eqP q r := by
  rw [Bool.eq_iff_iff, eqP_iff, eqP_iff, (eqP_iff p q).1 h]
structure KP where
  p : KV
  P : Nat
/-- what lies in the map -/
def ptr : Option KP → Value
  | none => .pointer none
  | some r => .pointer (some ⟨r.P, 0, none⟩)
def fnd (R : List KP) (p : KV) : Option KP := R.find? (fun r => eqP r.p p)
theorem fnd_congr (R : List KP) {p q : KV} (h : eqP p q = true) : fnd R p = fnd R q := by
  unfold fnd
  have e : (fun r : KP => eqP r.p p) = (fun r => eqP r.p q) := by
    funext r
    rw [eqP_comm r.p p, eqP_comm r.p q]
    exact eqP_left h
  rw [e]
structure MA (w : World) (M : Nat) (D : DataW Value) (R : List KP) : Prop where
  mo : w.ownsMap Try.prog 98 anyE M R.length D
  sz : Maps.size D = R.length
  hs : ∀ p l, keyOf Try.prog 98 (.agg (kC p)) = some l → Maps.has D l = (fnd R p).isSome ∧ D.atKey l (.held (.pointer none)) = .held (ptr (fnd R p))
  dj : R.Pairwise (fun a b => eqP a.p b.p = false)
  wf : ∀ r ∈ R, r.p.Wf
  ks : ∀ l, Maps.has D l = true → ∃ r ∈ R, keyOf Try.prog 98 (.agg (kC r.p)) = some l
theorem own_tight {w : World} {b n : Nat} {D : DataW Value} (h : w.ownsMap Try.prog 98 anyE b n D) : w.ownsMap Try.prog 98 anyE b (Maps.size D) D := by
  obtain ⟨es, clock, hb, F, hs, rfl⟩ := h
  exact ⟨es, clock, hb, F, by rw [Maps.size_eq, length_read]; exact Nat.le_refl _, rfl⟩
theorem own_ch {S : Nat → Prop} {w w' : World} {b n : Nat} {D : DataW Value} (h : w.ownsMap Try.prog 98 anyE b n D) (k : Ch S w w') (hS : ¬ S b) : w'.ownsMap Try.prog 98 anyE b n D := by
  obtain ⟨es, clock, hb, F, hs, hD⟩ := h
  exact ⟨es, clock, (k.block b (Array.getElem?_eq_some_iff.1 hb).1 hS).trans hb, F, hs, hD⟩
theorem MA.ch {S : Nat → Prop} {w w' : World} {M : Nat} {D : DataW Value} {R : List KP} (h : MA w M D R) (k : Ch S w w') (h2 : ¬ S M) : MA w' M D R :=
  { h with mo := own_ch h.mo k h2 }
theorem MA.below {w w' : World} {M : Nat} {D : DataW Value} {R : List KP} (h : MA w M D R) (k : Below w.heap.size w w') : MA w' M D R := h.ch (Ch.ofBelow (S := fun _ => False) k) id
theorem MA.lt {w : World} {M : Nat} {D : DataW Value} {R : List KP} (h : MA w M D R) : M < w.heap.size := h.mo.lt
theorem key_lit {p : KV} {l : Lit} (h : keyOf Try.prog 98 (.agg (kC p)) = some l) : WideAt.IsKeyLit l := lawR.key h
theorem fnd_snoc (R : List KP) (r : KP) (p : KV) : fnd (R ++ [r]) p = (fnd R p).or (if eqP r.p p then some r else none) := by
  unfold fnd
  rw [List.find?_append]
  simp [List.find?_cons]
  cases eqP r.p p <;> rfl
theorem MA.added {w w' : World} {M : Nat} {D : DataW Value} {R : List KP} (h : MA w M D R) (r : KP) (kl : Lit) (hk : keyOf Try.prog 98 (.agg (kC r.p)) = some kl) (hn : fnd R r.p = none) (hw : r.p.Wf) (hm : w'.ownsMap Try.prog 98 anyE M (R.length + 1) (D.put kl (.held (ptr (some r))))) :
    MA w' M (D.put kl (.held (ptr (some r)))) (R ++ [r]) := by
  have hl := key_lit hk
  have hd := h.mo.isMap
  have ht := h.mo.tidy lawR
  refine ⟨by rw [List.length_append]; exact hm, ?_, ?_, ?_, ?_, ?_⟩
  · rw [Maps.size_put ht, (h.hs r.p kl hk).1, hn]
    simp [h.sz]
  · intro p l hp
    rw [fnd_snoc]
    by_cases e : l = kl
    · subst e
      have e2 := lawR.inj hp hk
      have e3 : kC p = kC r.p := by simpa using e2
      have e4 : eqP r.p p = true := (eqP_iff _ _).2 e3.symm
      have e5 : fnd R p = none := by rw [← fnd_congr R e4]; exact hn
      rw [Maps.has_put_same hd hl, Maps.atKey_put_same hd hl, e5, e4]
      exact ⟨rfl, rfl⟩
    · have e4 : eqP r.p p = false := by
        rw [Bool.eq_false_iff]
        intro e5
        rw [(eqP_iff _ _).1 e5] at hk
        exact e (Option.some.inj (hp.symm.trans hk))
      rw [Maps.has_put_other e, Maps.atKey_put_other e, e4]
      simpa using h.hs p l hp
  · rw [List.pairwise_append]
    refine ⟨h.dj, by simp, fun a ha b hb => ?_⟩
    simp only [List.mem_singleton] at hb
    subst hb
    unfold fnd at hn
    have := (List.find?_eq_none.1 hn) a ha
    simpa using this
  · intro q hq
    rcases List.mem_append.1 hq with e | e
    · exact h.wf q e
    · simp only [List.mem_singleton] at e; subst e; exact hw
  · intro l hl2
    by_cases e : l = kl
    · subst e; exact ⟨r, by simp, hk⟩
    · rw [Maps.has_put_other e] at hl2
      obtain ⟨q, h1, h2⟩ := h.ks l hl2
      exact ⟨q, List.mem_append_left _ h1, h2⟩
def del (R : List KP) (p : KV) : List KP := R.filter (fun r => !(eqP r.p p))
theorem fnd_del (R : List KP) (p q : KV) : fnd (del R p) q = if eqP p q then none else fnd R q := by
  induction R with
  | nil => simp [fnd, del]
  | cons r R ih =>
    unfold fnd del at ih ⊢
    simp only [List.filter_cons, List.find?_cons]
    by_cases e : eqP r.p p = true
    · simp only [e, Bool.not_true, Bool.false_eq_true, if_false]
      rw [ih]
      by_cases e2 : eqP p q = true
      · rw [e2]; simp
      · rw [if_neg e2, if_neg e2]
        have : eqP r.p q = false := by rw [eqP_left e]; simpa using e2
        rw [this]
    · have e' : eqP r.p p = false := by simpa using e
      simp only [e', Bool.not_false, if_true, List.find?_cons]
      cases e3 : eqP r.p q with
      | true =>
        have : eqP p q = false := by
          rw [Bool.eq_false_iff]
          intro e4
          rw [eqP_comm p q] at e4
          have := eqP_trans e3 e4
          rw [e'] at this
          cases this
        rw [this]; simp
      | false => exact ih
theorem len_del (R : List KP) (p : KV) (h : R.Pairwise (fun a b => eqP a.p b.p = false)) : (del R p).length + (if (fnd R p).isSome then 1 else 0) = R.length := by
  induction R with
  | nil => simp [del, fnd]
  | cons r R ih =>
    obtain ⟨h1, h2⟩ := List.pairwise_cons.1 h
    have ih' := ih h2
    unfold del fnd at ih' ⊢
    simp only [List.filter_cons, List.find?_cons]
    by_cases e : eqP r.p p = true
    · simp only [e, Bool.not_true, Bool.false_eq_true, if_false, Option.isSome_some, if_true, List.length_cons]
      have : R.filter (fun r => !(eqP r.p p)) = R := by
        rw [List.filter_eq_self]
        intro a ha
        have := h1 a ha
        rw [eqP_left e, eqP_comm] at this
        simp [this]
      rw [this]
    · have e' : eqP r.p p = false := by simpa using e
      simp only [e', Bool.not_false, if_true, List.length_cons]
      omega
theorem MA.dropped {w w' : World} {M : Nat} {D : DataW Value} {R : List KP} (h : MA w M D R) (p : KV) (kl : Lit) (hk : keyOf Try.prog 98 (.agg (kC p)) = some kl) (hm : w'.ownsMap Try.prog 98 anyE M R.length (D.del kl)) :
    MA w' M (D.del kl) (del R p) := by
  have ht := h.mo.tidy lawR
  have hsz : Maps.size (D.del kl) = (del R p).length := by
    have h1 := Maps.size_del (k := kl) ht
    have h2 := len_del R p h.dj
    rw [(h.hs p kl hk).1, h.sz] at h1
    omega
  refine ⟨by rw [← hsz]; exact own_tight hm, hsz, ?_, ?_, ?_, ?_⟩
  · intro q l hq
    rw [fnd_del]
    by_cases e : l = kl
    · subst e
      have e2 := lawR.inj hq hk
      have e3 : kC q = kC p := by simpa using e2
      have e4 : eqP p q = true := (eqP_iff _ _).2 e3.symm
      rw [Maps.has_del_same, Maps.atKey_del_same, if_pos e4]
      exact ⟨rfl, rfl⟩
    · have e4 : eqP p q = false := by
        rw [Bool.eq_false_iff]
        intro e5
        rw [(eqP_iff _ _).1 e5] at hk
        exact e (Option.some.inj (hq.symm.trans hk))
      rw [Maps.has_del_other e, Maps.atKey_del_other e, if_neg (by rw [e4]; simp)]
      exact h.hs q l hq
  · exact h.dj.sublist List.filter_sublist
  · intro r hr
    exact h.wf r (List.mem_filter.1 hr).1
  · intro l hl2
    by_cases e : l = kl
    · subst e; rw [Maps.has_del_same] at hl2; cases hl2
    · rw [Maps.has_del_other e] at hl2
      obtain ⟨q, h1, h2⟩ := h.ks l hl2
      refine ⟨q, List.mem_filter.2 ⟨h1, ?_⟩, h2⟩
      have : eqP q.p p = false := by
        rw [Bool.eq_false_iff]
        intro e5
        rw [← (eqP_iff _ _).1 e5] at hk
        exact e (Option.some.inj (h2.symm.trans hk))
      rw [this]
      rfl
end Go.Proofs.Ytnpipngiehohgaa
