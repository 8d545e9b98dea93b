/-
  FlMap: lemmas of the proof of FlowPlays, and walks through the functions that it calls.
-/
import Derived.Maps.OwnSet
import Derived.DeepKeys5
import Derived.Test.YtclpeepnngegaaaGreatDoorP00
import Derived.Test.YtclpeepnngegaaaGreatDoorP03
namespace Go.Proofs.YtclpeepnngegaaaGreatDoor
open Go.RowKit Go.Maps
def anyE (v : Value) : Option (DataW Value × List MemPlace) := some (.held v, [])
theorem Tryz.laidOutR : laidOutB Tryz.prog = true := by kernel_rfl
theorem Tryz.rowR : decide (38 < Tryz.prog.types.size) = true := by kernel_rfl
theorem lawR : Keyed Tryz.prog 38 := Keyed.of_law (deep_law_laid Tryz.laidOutR (m := 6) (by omega) (k := 38) (of_decide_eq_true Tryz.rowR) (by kernel_rfl) (by kernel_rfl))
theorem Tryz.rowQ : decide (102 < Tryz.prog.types.size) = true := by kernel_rfl
theorem lawQ : Keyed Tryz.prog 102 := Keyed.of_law (deep_law_laid Tryz.laidOutR (m := 6) (by omega) (k := 102) (of_decide_eq_true Tryz.rowQ) (by kernel_rfl) (by kernel_rfl))
theorem Tryz.cellsPf : Tryz.prog.cellsOf 38 = 37 := by kernel_rfl
theorem Tryz.cellsPl : Tryz.prog.cellsOf 102 = 2 := by kernel_rfl
theorem Tryz.cellsIPr : Tryz.prog.cellsOf 24 = 17 := by kernel_rfl
theorem Tryz.cellsAr : Tryz.prog.cellsOf 22 = 16 := by kernel_rfl
theorem Tryz.cellsIr : Tryz.prog.cellsOf 3 = 1 := by kernel_rfl
theorem Tryz.cellsBr : Tryz.prog.cellsOf 5 = 1 := by kernel_rfl
theorem Tryz.keyR : Tryz.prog.keyType 38 = true := by kernel_rfl
theorem Tryz.keyQ : Tryz.prog.keyType 102 = true := by kernel_rfl
theorem Tryz.types3 : ∃ n, Tryz.prog.types.size = n + 4 := by
 have h : decide (4 ≤ Tryz.prog.types.size) = true := by kernel_rfl
 have := of_decide_eq_true h
 exact ⟨Tryz.prog.types.size - 4, by omega⟩
structure TU.Wf (p : TU) : Prop where
  pr : (Lit.int .i64 p.pr).wf = true
  sV : (Lit.int .i64 p.sV).wf = true
  s : ∀ i, i < 16 → p.s i < 256
  dV : (Lit.int .i64 p.dV).wf = true
  d : ∀ i, i < 16 → p.d i < 256
  sp : (Lit.int .i64 p.sp).wf = true
  dp : (Lit.int .i64 p.dp).wf = true
theorem TU.Wf.rev {p : TU} (h : p.Wf) : p.rev.Wf := ⟨h.pr, h.dV, h.d, h.sV, h.s, h.dp, h.sp⟩
structure PL.Wf (p : PL) : Prop where
  pr : (Lit.int .i64 p.pr).wf = true
  po : (Lit.int .i64 p.po).wf = true
theorem wf_u8 {k : Nat} (h : k < 256) : (Lit.int .u8 (k : Int)).wf = true := by
 have e1 : IntKind.u8.min = 0 := rfl
 have e2 : IntKind.u8.max = 255 := rfl
 simp [Lit.wf, e1, e2]
 omega
theorem mapM_ok {α β : Type} (f : α → Option β) (g : α → β) : ∀ l : List α, (∀ a ∈ l, f a = some (g a)) → l.mapM f = some (l.map g)
 | [], _ => rfl
 | a :: l, h => by
  rw [List.mapM_cons, h a (.head _), mapM_ok f g l (fun b hb => h b (.tail _ hb))]
  rfl
theorem kl_int (d : Nat) (a : Int) (h : (Lit.int .i64 a).wf = true) : Tryz.prog.keyLits (d + 1) 3 [.int .i64 a] = some [.int .i64 a] := by
 unfold Program.keyLits
 rw [Tryz.underlying3]
 simp [h]
theorem kl_u8 (d : Nat) (a : Nat) (h : a < 256) : Tryz.prog.keyLits (d + 1) 5 [.int .u8 (a : Int)] = some [.int .u8 (a : Int)] := by
 unfold Program.keyLits
 rw [Tryz.underlying5]
 simp [wf_u8 h]
theorem ar_part (x : Nat → Nat) (i : Nat) (h : i < 16) : ((arCells x).toList.drop (i * 1)).take 1 = [.int .u8 (x i : Nat)] := by
 have := lt20' (show i < 20 by omega)
 rcases this with rfl | rfl | rfl | rfl | rfl | rfl | rfl | rfl | rfl | rfl | rfl | rfl | rfl | rfl | rfl | rfl | rfl | rfl | rfl | rfl
 all_goals first | rfl | omega
theorem kl_ar (d : Nat) (x : Nat → Nat) (h : ∀ i, i < 16 → x i < 256) : ∃ ls, Tryz.prog.keyLits (d + 2) 22 (arCells x).toList = some ls := by
 unfold Program.keyLits
 simp only [Tryz.underlying22]
 rw [if_pos (show (arCells x).toList.length = Tryz.prog.cellsOf 22 by rw [Tryz.cellsAr]; rfl), Tryz.cellsBr]
 rw [mapM_ok _ (fun i => [Lit.int .u8 (x i : Nat)]) _ (fun i hi => by
  have hi' : i < 16 := by simpa using hi
  rw [ar_part x i hi']
  exact kl_u8 d (x i) (h i hi'))]
 exact ⟨_, rfl⟩
theorem kl_ip (d : Nat) (V : Int) (x : Nat → Nat) (hv : (Lit.int .i64 V).wf = true) (h : ∀ i, i < 16 → x i < 256) : ∃ ls, Tryz.prog.keyLits (d + 3) 24 (ipCells V x).toList = some ls := by
 obtain ⟨la, hla⟩ := kl_ar d x h
 unfold Program.keyLits
 simp only [Tryz.underlying24]
 rw [if_pos (show (ipCells V x).toList.length = Tryz.prog.cellsOf 24 ∧ _ from ⟨by rw [Tryz.cellsIPr]; rfl, by kernel_rfl⟩)]
 simp only [List.mapM_cons, List.mapM_nil, Tryz.cellsIr, Tryz.cellsAr]
 rw [show List.take 1 (List.drop 0 (ipCells V x).toList) = [.int .i64 V] from rfl, show List.take 16 (List.drop 1 (ipCells V x).toList) = (arCells x).toList from rfl, kl_int (d + 1) V hv, hla]
 exact ⟨_, rfl⟩
theorem kl_pf (d : Nat) (p : TU) (h : p.Wf) : ∃ ls, Tryz.prog.keyLits (d + 4) 38 (tuC p).toList = some ls := by
 obtain ⟨la, hla⟩ := kl_ip d p.sV p.s h.sV h.s
 obtain ⟨lb, hlb⟩ := kl_ip d p.dV p.d h.dV h.d
 unfold Program.keyLits
 simp only [Tryz.underlying38]
 rw [if_pos (show (tuC p).toList.length = Tryz.prog.cellsOf 38 ∧ _ from ⟨by rw [Tryz.cellsPf]; rfl, by kernel_rfl⟩)]
 simp only [List.mapM_cons, List.mapM_nil, Tryz.cellsIr, Tryz.cellsIPr]
 rw [show List.take 1 (List.drop 0 (tuC p).toList) = [.int .i64 p.pr] from rfl, show List.take 17 (List.drop 1 (tuC p).toList) = (ipCells p.sV p.s).toList from rfl, show List.take 17 (List.drop 18 (tuC p).toList) = (ipCells p.dV p.d).toList from rfl, show List.take 1 (List.drop 35 (tuC p).toList) = [.int .i64 p.sp] from rfl, show List.take 1 (List.drop 36 (tuC p).toList) = [.int .i64 p.dp] from rfl, kl_int (d + 2) p.pr h.pr, kl_int (d + 2) p.sp h.sp, kl_int (d + 2) p.dp h.dp, hla, hlb]
 exact ⟨_, rfl⟩
theorem kl_pl (d : Nat) (p : PL) (h : p.Wf) : ∃ ls, Tryz.prog.keyLits (d + 4) 102 (plC p).toList = some ls := by
 unfold Program.keyLits
 simp only [Tryz.underlying102]
 rw [if_pos (show (plC p).toList.length = Tryz.prog.cellsOf 102 ∧ _ from ⟨by rw [Tryz.cellsPl]; rfl, by kernel_rfl⟩)]
 simp only [List.mapM_cons, List.mapM_nil, Tryz.cellsIr]
 rw [show List.take 1 (List.drop 0 (plC p).toList) = [.int .i64 p.pr] from rfl, show List.take 1 (List.drop 1 (plC p).toList) = [.int .i64 p.po] from rfl, kl_int (d + 2) p.pr h.pr, kl_int (d + 2) p.po h.po]
 exact ⟨_, rfl⟩
theorem kv_key (p : TU) (h : p.Wf) : ∃ l, keyOf Tryz.prog 38 (.agg (tuC p)) = some l := by
 obtain ⟨N, hN⟩ := Tryz.types3
 obtain ⟨ls, hls⟩ := kl_pf (N + 1) p h
 unfold keyOf
 rw [Tryz.underlying38]
 simp only [Tryz.keyR, Value.formed, Tryz.underlying38, Tryz.cellsPf, Bool.true_and]
 rw [if_pos (show ((tuC p).size == 37) = true from rfl), hN]
 show ∃ l, Option.map _ (Tryz.prog.keyLits (N + 1 + 4) 38 (tuC p).toList) = some l
 rw [hls]
 exact ⟨_, rfl⟩
theorem pl_key (p : PL) (h : p.Wf) : ∃ l, keyOf Tryz.prog 102 (.agg (plC p)) = some l := by
 obtain ⟨N, hN⟩ := Tryz.types3
 obtain ⟨ls, hls⟩ := kl_pl (N + 1) p h
 unfold keyOf
 rw [Tryz.underlying102]
 simp only [Tryz.keyQ, Value.formed, Tryz.underlying102, Tryz.cellsPl, Bool.true_and]
 rw [if_pos (show ((plC p).size == 2) = true from rfl), hN]
 show ∃ l, Option.map _ (Tryz.prog.keyLits (N + 1 + 4) 102 (plC p).toList) = some l
 rw [hls]
 exact ⟨_, rfl⟩
def eqP (p q : TU) : Bool := p.pr == q.pr && (p.sV == q.sV && same16 p.s q.s) && (p.dV == q.dV && same16 p.d q.d) && p.sp == q.sp && p.dp == q.dp
theorem eqP_iff (p q : TU) : eqP p q = true ↔ tuC p = tuC q := by
 unfold eqP
 simp only [Bool.and_eq_true, beq_iff_eq, same16, decide_eq_true_eq, tuC]
 constructor
 · rintro ⟨⟨⟨⟨h1, h2, ha⟩, h3, hb⟩, h4⟩, h5⟩
   obtain ⟨a0, a1, a2, a3, a4, a5, a6, a7, a8, a9, a10, a11, a12, a13, a14, a15⟩ := ha
   obtain ⟨b0, b1, b2, b3, b4, b5, b6, b7, b8, b9, b10, b11, b12, b13, b14, b15⟩ := hb
   rw [h1, h2, h3, h4, h5, a0, a1, a2, a3, a4, a5, a6, a7, a8, a9, a10, a11, a12, a13, a14, a15, b0, b1, b2, b3, b4, b5, b6, b7, b8, b9, b10, b11, b12, b13, b14, b15]
 · intro h
   simp only [Array.mk.injEq, List.cons.injEq, Value.int.injEq, true_and, and_true, Int.ofNat_inj] at h
   obtain ⟨h1, h2, a0, a1, a2, a3, a4, a5, a6, a7, a8, a9, a10, a11, a12, a13, a14, a15, h3, b0, b1, b2, b3, b4, b5, b6, b7, b8, b9, b10, b11, b12, b13, b14, b15, h4, h5⟩ := h
   exact ⟨⟨⟨⟨h1, h2, a0, a1, a2, a3, a4, a5, a6, a7, a8, a9, a10, a11, a12, a13, a14, a15⟩, h3, b0, b1, b2, b3, b4, b5, b6, b7, b8, b9, b10, b11, b12, b13, b14, b15⟩, h4⟩, h5⟩
theorem eqP_refl (p : TU) : eqP p p = true := (eqP_iff p p).2 rfl
theorem eqP_comm (p q : TU) : eqP p q = eqP q p := by
 rw [Bool.eq_iff_iff, eqP_iff, eqP_iff]; exact eq_comm
theorem eqP_trans {p q r : TU} (h : eqP p q = true) (k : eqP q r = true) : eqP p r = true := (eqP_iff p r).2 (((eqP_iff p q).1 h).trans ((eqP_iff q r).1 k))
theorem eqP_left {p q r : TU} (h : eqP p q = true) : eqP p r = eqP q r := by
 rw [Bool.eq_iff_iff, eqP_iff, eqP_iff, (eqP_iff p q).1 h]
def eqQ (p q : PL) : Bool := p.pr == q.pr && p.po == q.po
theorem eqQ_iff (p q : PL) : eqQ p q = true ↔ plC p = plC q := by
 unfold eqQ
 simp only [Bool.and_eq_true, beq_iff_eq, plC]
 constructor
 · rintro ⟨h1, h2⟩
   rw [h1, h2]
 · intro h
   simp only [Array.mk.injEq, List.cons.injEq, Value.int.injEq, true_and, and_true] at h
   exact h
theorem eqQ_refl (p : PL) : eqQ p p = true := (eqQ_iff p p).2 rfl
theorem eqQ_comm (p q : PL) : eqQ p q = eqQ q p := by
 rw [Bool.eq_iff_iff, eqQ_iff, eqQ_iff]; exact eq_comm
theorem eqQ_trans {p q r : PL} (h : eqQ p q = true) (k : eqQ q r = true) : eqQ p r = true := (eqQ_iff p r).2 (((eqQ_iff p q).1 h).trans ((eqQ_iff q r).1 k))
theorem eqQ_left {p q r : PL} (h : eqQ p q = true) : eqQ p r = eqQ q r := by
 rw [Bool.eq_iff_iff, eqQ_iff, eqQ_iff, (eqQ_iff p q).1 h]
theorem zeroF (w : World) : (zeroValue 77).run Tryz.prog w = .ok (.pointer none) w := by kernel_rfl
structure KP where
  p : TU
  P : Nat
def ptr : Option KP → Value
 | none => .pointer none
 | some r => .pointer (some ⟨r.P, 0, none⟩)
def fnd (R : List KP) (p : TU) : Option KP := R.find? (fun r => eqP r.p p)
theorem fnd_congr (R : List KP) {p q : TU} (h : eqP p q = true) : fnd R p = fnd R q := by
 unfold fnd
 have e : (fun r : KP => eqP r.p p) = (fun r => eqP r.p q) := by
  funext r
  rw [eqP_comm r.p p, eqP_comm r.p q]
  exact eqP_left h
 rw [e]
structure MA (w : World) (M : Nat) (D : DataW Value) (R : List KP) : Prop where
  mo : w.ownsMap Tryz.prog 38 anyE M R.length D
  sz : Maps.size D = R.length
  hs : ∀ p l, keyOf Tryz.prog 38 (.agg (tuC p)) = some l → Maps.has D l = (fnd R p).isSome ∧ D.atKey l (.held (.pointer none)) = .held (ptr (fnd R p))
  dj : R.Pairwise (fun a b => eqP a.p b.p = false)
  wf : ∀ r ∈ R, r.p.Wf
  ks : ∀ l, Maps.has D l = true → ∃ r ∈ R, keyOf Tryz.prog 38 (.agg (tuC r.p)) = some l
theorem own_tight {w : World} {b n : Nat} {D : DataW Value} (h : w.ownsMap Tryz.prog 38 anyE b n D) : w.ownsMap Tryz.prog 38 anyE b (Maps.size D) D := by
 obtain ⟨es, clock, hb, F, hs, rfl⟩ := h
 exact ⟨es, clock, hb, F, by rw [Maps.size_eq, length_read]; exact Nat.le_refl _, rfl⟩
theorem own_ch {S : Nat → Prop} {w w' : World} {b n : Nat} {D : DataW Value} (h : w.ownsMap Tryz.prog 38 anyE b n D) (k : Ch S w w') (hS : ¬ S b) : w'.ownsMap Tryz.prog 38 anyE b n D := by
 obtain ⟨es, clock, hb, F, hs, hD⟩ := h
 exact ⟨es, clock, (k.block b (Array.getElem?_eq_some_iff.1 hb).1 hS).trans hb, F, hs, hD⟩
theorem MA.ch {S : Nat → Prop} {w w' : World} {M : Nat} {D : DataW Value} {R : List KP} (h : MA w M D R) (k : Ch S w w') (h2 : ¬ S M) : MA w' M D R :=
 { h with mo := own_ch h.mo k h2 }
theorem MA.below {w w' : World} {M : Nat} {D : DataW Value} {R : List KP} (h : MA w M D R) (k : Below w.heap.size w w') : MA w' M D R := h.ch (Ch.ofBelow (S := fun _ => False) k) id
theorem MA.lt {w : World} {M : Nat} {D : DataW Value} {R : List KP} (h : MA w M D R) : M < w.heap.size := h.mo.lt
theorem key_lit {p : TU} {l : Lit} (h : keyOf Tryz.prog 38 (.agg (tuC p)) = some l) : WideAt.IsKeyLit l := lawR.key h
theorem fnd_snoc (R : List KP) (r : KP) (p : TU) : fnd (R ++ [r]) p = (fnd R p).or (if eqP r.p p then some r else none) := by
 unfold fnd
 rw [List.find?_append]
 simp [List.find?_cons]
 cases eqP r.p p <;> rfl
theorem MA.added {w w' : World} {M : Nat} {D : DataW Value} {R : List KP} (h : MA w M D R) (r : KP) (kl : Lit) (hk : keyOf Tryz.prog 38 (.agg (tuC r.p)) = some kl) (hn : fnd R r.p = none) (hw : r.p.Wf) (hm : w'.ownsMap Tryz.prog 38 anyE M (R.length + 1) (D.put kl (.held (ptr (some r))))) :
 MA w' M (D.put kl (.held (ptr (some r)))) (R ++ [r]) := by
 have hl := key_lit hk
 have hd := h.mo.isMap
 have ht := h.mo.tidy lawR
 refine ⟨by rw [List.length_append]; exact hm, ?_, ?_, ?_, ?_, ?_⟩
 · rw [Maps.size_put ht, (h.hs r.p kl hk).1, hn]
   simp [h.sz]
 · intro p l hp
   rw [fnd_snoc]
   by_cases e : l = kl
   · subst e
     have e2 := lawR.inj hp hk
     have e3 : tuC p = tuC r.p := by simpa using e2
     have e4 : eqP r.p p = true := (eqP_iff _ _).2 e3.symm
     have e5 : fnd R p = none := by rw [← fnd_congr R e4]; exact hn
     rw [Maps.has_put_same hd hl, Maps.atKey_put_same hd hl, e5, e4]
     exact ⟨rfl, rfl⟩
   · have e4 : eqP r.p p = false := by
      rw [Bool.eq_false_iff]
      intro e5
      rw [(eqP_iff _ _).1 e5] at hk
      exact e (Option.some.inj (hp.symm.trans hk))
     rw [Maps.has_put_other e, Maps.atKey_put_other e, e4]
     simpa using h.hs p l hp
 · rw [List.pairwise_append]
   refine ⟨h.dj, by simp, fun a ha b hb => ?_⟩
   simp only [List.mem_singleton] at hb
   subst hb
   unfold fnd at hn
   have := (List.find?_eq_none.1 hn) a ha
   simpa using this
 · intro q hq
   rcases List.mem_append.1 hq with e | e
   · exact h.wf q e
   · simp only [List.mem_singleton] at e; subst e; exact hw
 · intro l hl2
   by_cases e : l = kl
   · subst e; exact ⟨r, by simp, hk⟩
   · rw [Maps.has_put_other e] at hl2
     obtain ⟨q, h1, h2⟩ := h.ks l hl2
     exact ⟨q, List.mem_append_left _ h1, h2⟩
def del (R : List KP) (p : TU) : List KP := R.filter (fun r => !(eqP r.p p))
theorem fnd_del (R : List KP) (p q : TU) : fnd (del R p) q = if eqP p q then none else fnd R q := by
 induction R with
 | nil => simp [fnd, del]
 | cons r R ih =>
  unfold fnd del at ih ⊢
  simp only [List.filter_cons, List.find?_cons]
  by_cases e : eqP r.p p = true
  · simp only [e, Bool.not_true, Bool.false_eq_true, if_false]
    rw [ih]
    by_cases e2 : eqP p q = true
    · rw [e2]; simp
    · rw [if_neg e2, if_neg e2]
      have : eqP r.p q = false := by rw [eqP_left e]; simpa using e2
      rw [this]
  · have e' : eqP r.p p = false := by simpa using e
    simp only [e', Bool.not_false, if_true, List.find?_cons]
    cases e3 : eqP r.p q with
    | true =>
     have : eqP p q = false := by
      rw [Bool.eq_false_iff]
      intro e4
      rw [eqP_comm p q] at e4
      have := eqP_trans e3 e4
      rw [e'] at this
      cases this
     rw [this]; simp
    | false => exact ih
theorem len_del (R : List KP) (p : TU) (h : R.Pairwise (fun a b => eqP a.p b.p = false)) : (del R p).length + (if (fnd R p).isSome then 1 else 0) = R.length := by
 induction R with
 | nil => simp [del, fnd]
 | cons r R ih =>
  obtain ⟨h1, h2⟩ := List.pairwise_cons.1 h
  have ih' := ih h2
  unfold del fnd at ih' ⊢
  simp only [List.filter_cons, List.find?_cons]
  by_cases e : eqP r.p p = true
  · simp only [e, Bool.not_true, Bool.false_eq_true, if_false, Option.isSome_some, if_true, List.length_cons]
    have : R.filter (fun r => !(eqP r.p p)) = R := by
     rw [List.filter_eq_self]
     intro a ha
     have := h1 a ha
     rw [eqP_left e, eqP_comm] at this
     simp [this]
    rw [this]
  · have e' : eqP r.p p = false := by simpa using e
    simp only [e', Bool.not_false, if_true, List.length_cons]
    omega
theorem MA.dropped {w w' : World} {M : Nat} {D : DataW Value} {R : List KP} (h : MA w M D R) (p : TU) (kl : Lit) (hk : keyOf Tryz.prog 38 (.agg (tuC p)) = some kl) (hm : w'.ownsMap Tryz.prog 38 anyE M R.length (D.del kl)) :
 MA w' M (D.del kl) (del R p) := by
 have ht := h.mo.tidy lawR
 have hsz : Maps.size (D.del kl) = (del R p).length := by
  have h1 := Maps.size_del (k := kl) ht
  have h2 := len_del R p h.dj
  rw [(h.hs p kl hk).1, h.sz] at h1
  omega
 refine ⟨by rw [← hsz]; exact own_tight hm, hsz, ?_, ?_, ?_, ?_⟩
 · intro q l hq
   rw [fnd_del]
   by_cases e : l = kl
   · subst e
     have e2 := lawR.inj hq hk
     have e3 : tuC q = tuC p := by simpa using e2
     have e4 : eqP p q = true := (eqP_iff _ _).2 e3.symm
     rw [Maps.has_del_same, Maps.atKey_del_same, if_pos e4]
     exact ⟨rfl, rfl⟩
   · have e4 : eqP p q = false := by
      rw [Bool.eq_false_iff]
      intro e5
      rw [(eqP_iff _ _).1 e5] at hk
      exact e (Option.some.inj (hq.symm.trans hk))
     rw [Maps.has_del_other e, Maps.atKey_del_other e, if_neg (by rw [e4]; simp)]
     exact h.hs q l hq
 · exact h.dj.sublist List.filter_sublist
 · intro r hr
   exact h.wf r (List.mem_filter.1 hr).1
 · intro l hl2
   by_cases e : l = kl
   · subst e; rw [Maps.has_del_same] at hl2; cases hl2
   · rw [Maps.has_del_other e] at hl2
     obtain ⟨q, h1, h2⟩ := h.ks l hl2
     refine ⟨q, List.mem_filter.2 ⟨h1, ?_⟩, h2⟩
     have : eqP q.p p = false := by
      rw [Bool.eq_false_iff]
      intro e5
      rw [← (eqP_iff _ _).1 e5] at hk
      exact e (Option.some.inj (h2.symm.trans hk))
     rw [this]
     rfl
theorem MA.look {w : World} {M : Nat} {D : DataW Value} {R : List KP} (h : MA w M D R) (p : TU) (kl : Lit) (hk : keyOf Tryz.prog 38 (.agg (tuC p)) = some kl) : (Instr.lookup 67 (.map (some M)) (.agg (tuC p)) false).run Tryz.prog w = .ok (ptr (fnd R p)) w := by
 obtain ⟨v, ps, hrun, hv⟩ := h.mo.lookup lawR Tryz.underlying67 (zeroF w) (zd := .held (.pointer none)) (zp := []) rfl hk
 rw [(h.hs p kl hk).2] at hv
 have hv' : some ((DataW.held v : DataW Value), ([] : List MemPlace)) = some (.held (ptr (fnd R p)), ps) := hv
 simp only [Option.some.injEq, Prod.mk.injEq, DataW.held.injEq] at hv'
 rw [hrun, hv'.1]
structure KQ where
  p : PL
  P : Nat
def ptq : Option KQ → Value
 | none => .pointer none
 | some r => .pointer (some ⟨r.P, 0, none⟩)
def fnq (R : List KQ) (p : PL) : Option KQ := R.find? (fun r => eqQ r.p p)
theorem fnq_congr (R : List KQ) {p q : PL} (h : eqQ p q = true) : fnq R p = fnq R q := by
 unfold fnq
 have e : (fun r : KQ => eqQ r.p p) = (fun r => eqQ r.p q) := by
  funext r
  rw [eqQ_comm r.p p, eqQ_comm r.p q]
  exact eqQ_left h
 rw [e]
structure MB (w : World) (M : Nat) (D : DataW Value) (R : List KQ) : Prop where
  mo : w.ownsMap Tryz.prog 102 anyE M R.length D
  sz : Maps.size D = R.length
  hs : ∀ p l, keyOf Tryz.prog 102 (.agg (plC p)) = some l → Maps.has D l = (fnq R p).isSome ∧ D.atKey l (.held (.pointer none)) = .held (ptq (fnq R p))
  dj : R.Pairwise (fun a b => eqQ a.p b.p = false)
  wf : ∀ r ∈ R, r.p.Wf
  ks : ∀ l, Maps.has D l = true → ∃ r ∈ R, keyOf Tryz.prog 102 (.agg (plC r.p)) = some l
theorem own_tightq {w : World} {b n : Nat} {D : DataW Value} (h : w.ownsMap Tryz.prog 102 anyE b n D) : w.ownsMap Tryz.prog 102 anyE b (Maps.size D) D := by
 obtain ⟨es, clock, hb, F, hs, rfl⟩ := h
 exact ⟨es, clock, hb, F, by rw [Maps.size_eq, length_read]; exact Nat.le_refl _, rfl⟩
theorem own_chq {S : Nat → Prop} {w w' : World} {b n : Nat} {D : DataW Value} (h : w.ownsMap Tryz.prog 102 anyE b n D) (k : Ch S w w') (hS : ¬ S b) : w'.ownsMap Tryz.prog 102 anyE b n D := by
 obtain ⟨es, clock, hb, F, hs, hD⟩ := h
 exact ⟨es, clock, (k.block b (Array.getElem?_eq_some_iff.1 hb).1 hS).trans hb, F, hs, hD⟩
theorem MB.ch {S : Nat → Prop} {w w' : World} {M : Nat} {D : DataW Value} {R : List KQ} (h : MB w M D R) (k : Ch S w w') (h2 : ¬ S M) : MB w' M D R :=
 { h with mo := own_chq h.mo k h2 }
theorem MB.below {w w' : World} {M : Nat} {D : DataW Value} {R : List KQ} (h : MB w M D R) (k : Below w.heap.size w w') : MB w' M D R := h.ch (Ch.ofBelow (S := fun _ => False) k) id
theorem MB.lt {w : World} {M : Nat} {D : DataW Value} {R : List KQ} (h : MB w M D R) : M < w.heap.size := h.mo.lt
theorem key_litq {p : PL} {l : Lit} (h : keyOf Tryz.prog 102 (.agg (plC p)) = some l) : WideAt.IsKeyLit l := lawQ.key h
theorem fnq_snoc (R : List KQ) (r : KQ) (p : PL) : fnq (R ++ [r]) p = (fnq R p).or (if eqQ r.p p then some r else none) := by
 unfold fnq
 rw [List.find?_append]
 simp [List.find?_cons]
 cases eqQ r.p p <;> rfl
theorem MB.added {w w' : World} {M : Nat} {D : DataW Value} {R : List KQ} (h : MB w M D R) (r : KQ) (kl : Lit) (hk : keyOf Tryz.prog 102 (.agg (plC r.p)) = some kl) (hn : fnq R r.p = none) (hw : r.p.Wf) (hm : w'.ownsMap Tryz.prog 102 anyE M (R.length + 1) (D.put kl (.held (ptq (some r))))) :
 MB w' M (D.put kl (.held (ptq (some r)))) (R ++ [r]) := by
 have hl := key_litq hk
 have hd := h.mo.isMap
 have ht := h.mo.tidy lawQ
 refine ⟨by rw [List.length_append]; exact hm, ?_, ?_, ?_, ?_, ?_⟩
 · rw [Maps.size_put ht, (h.hs r.p kl hk).1, hn]
   simp [h.sz]
 · intro p l hp
   rw [fnq_snoc]
   by_cases e : l = kl
   · subst e
     have e2 := lawQ.inj hp hk
     have e3 : plC p = plC r.p := by simpa using e2
     have e4 : eqQ r.p p = true := (eqQ_iff _ _).2 e3.symm
     have e5 : fnq R p = none := by rw [← fnq_congr R e4]; exact hn
     rw [Maps.has_put_same hd hl, Maps.atKey_put_same hd hl, e5, e4]
     exact ⟨rfl, rfl⟩
   · have e4 : eqQ r.p p = false := by
      rw [Bool.eq_false_iff]
      intro e5
      rw [(eqQ_iff _ _).1 e5] at hk
      exact e (Option.some.inj (hp.symm.trans hk))
     rw [Maps.has_put_other e, Maps.atKey_put_other e, e4]
     simpa using h.hs p l hp
 · rw [List.pairwise_append]
   refine ⟨h.dj, by simp, fun a ha b hb => ?_⟩
   simp only [List.mem_singleton] at hb
   subst hb
   unfold fnq at hn
   have := (List.find?_eq_none.1 hn) a ha
   simpa using this
 · intro q hq
   rcases List.mem_append.1 hq with e | e
   · exact h.wf q e
   · simp only [List.mem_singleton] at e; subst e; exact hw
 · intro l hl2
   by_cases e : l = kl
   · subst e; exact ⟨r, by simp, hk⟩
   · rw [Maps.has_put_other e] at hl2
     obtain ⟨q, h1, h2⟩ := h.ks l hl2
     exact ⟨q, List.mem_append_left _ h1, h2⟩
def delq (R : List KQ) (p : PL) : List KQ := R.filter (fun r => !(eqQ r.p p))
theorem fnq_del (R : List KQ) (p q : PL) : fnq (delq R p) q = if eqQ p q then none else fnq R q := by
 induction R with
 | nil => simp [fnq, delq]
 | cons r R ih =>
  unfold fnq delq at ih ⊢
  simp only [List.filter_cons, List.find?_cons]
  by_cases e : eqQ r.p p = true
  · simp only [e, Bool.not_true, Bool.false_eq_true, if_false]
    rw [ih]
    by_cases e2 : eqQ p q = true
    · rw [e2]; simp
    · rw [if_neg e2, if_neg e2]
      have : eqQ r.p q = false := by rw [eqQ_left e]; simpa using e2
      rw [this]
  · have e' : eqQ r.p p = false := by simpa using e
    simp only [e', Bool.not_false, if_true, List.find?_cons]
    cases e3 : eqQ r.p q with
    | true =>
     have : eqQ p q = false := by
      rw [Bool.eq_false_iff]
      intro e4
      rw [eqQ_comm p q] at e4
      have := eqQ_trans e3 e4
      rw [e'] at this
      cases this
     rw [this]; simp
    | false => exact ih
theorem len_delq (R : List KQ) (p : PL) (h : R.Pairwise (fun a b => eqQ a.p b.p = false)) : (delq R p).length + (if (fnq R p).isSome then 1 else 0) = R.length := by
 induction R with
 | nil => simp [delq, fnq]
 | cons r R ih =>
  obtain ⟨h1, h2⟩ := List.pairwise_cons.1 h
  have ih' := ih h2
  unfold delq fnq at ih' ⊢
  simp only [List.filter_cons, List.find?_cons]
  by_cases e : eqQ r.p p = true
  · simp only [e, Bool.not_true, Bool.false_eq_true, if_false, Option.isSome_some, if_true, List.length_cons]
    have : R.filter (fun r => !(eqQ r.p p)) = R := by
     rw [List.filter_eq_self]
     intro a ha
     have := h1 a ha
     rw [eqQ_left e, eqQ_comm] at this
     simp [this]
    rw [this]
  · have e' : eqQ r.p p = false := by simpa using e
    simp only [e', Bool.not_false, if_true, List.length_cons]
    omega
theorem MB.dropped {w w' : World} {M : Nat} {D : DataW Value} {R : List KQ} (h : MB w M D R) (p : PL) (kl : Lit) (hk : keyOf Tryz.prog 102 (.agg (plC p)) = some kl) (hm : w'.ownsMap Tryz.prog 102 anyE M R.length (D.del kl)) :
 MB w' M (D.del kl) (delq R p) := by
 have ht := h.mo.tidy lawQ
 have hsz : Maps.size (D.del kl) = (delq R p).length := by
  have h1 := Maps.size_del (k := kl) ht
  have h2 := len_delq R p h.dj
  rw [(h.hs p kl hk).1, h.sz] at h1
  omega
 refine ⟨by rw [← hsz]; exact own_tightq hm, hsz, ?_, ?_, ?_, ?_⟩
 · intro q l hq
   rw [fnq_del]
   by_cases e : l = kl
   · subst e
     have e2 := lawQ.inj hq hk
     have e3 : plC q = plC p := by simpa using e2
     have e4 : eqQ p q = true := (eqQ_iff _ _).2 e3.symm
     rw [Maps.has_del_same, Maps.atKey_del_same, if_pos e4]
     exact ⟨rfl, rfl⟩
   · have e4 : eqQ p q = false := by
      rw [Bool.eq_false_iff]
      intro e5
      rw [(eqQ_iff _ _).1 e5] at hk
      exact e (Option.some.inj (hq.symm.trans hk))
     rw [Maps.has_del_other e, Maps.atKey_del_other e, if_neg (by rw [e4]; simp)]
     exact h.hs q l hq
 · exact h.dj.sublist List.filter_sublist
 · intro r hr
   exact h.wf r (List.mem_filter.1 hr).1
 · intro l hl2
   by_cases e : l = kl
   · subst e; rw [Maps.has_del_same] at hl2; cases hl2
   · rw [Maps.has_del_other e] at hl2
     obtain ⟨q, h1, h2⟩ := h.ks l hl2
     refine ⟨q, List.mem_filter.2 ⟨h1, ?_⟩, h2⟩
     have : eqQ q.p p = false := by
      rw [Bool.eq_false_iff]
      intro e5
      rw [← (eqQ_iff _ _).1 e5] at hk
      exact e (Option.some.inj (h2.symm.trans hk))
     rw [this]
     rfl
theorem MB.look {w : World} {M : Nat} {D : DataW Value} {R : List KQ} (h : MB w M D R) (p : PL) (kl : Lit) (hk : keyOf Tryz.prog 102 (.agg (plC p)) = some kl) : (Instr.lookup 68 (.map (some M)) (.agg (plC p)) false).run Tryz.prog w = .ok (ptq (fnq R p)) w := by
 obtain ⟨v, ps, hrun, hv⟩ := h.mo.lookup lawQ Tryz.underlying68 (zeroF w) (zd := .held (.pointer none)) (zp := []) rfl hk
 rw [(h.hs p kl hk).2] at hv
 have hv' : some ((DataW.held v : DataW Value), ([] : List MemPlace)) = some (.held (ptq (fnq R p)), ps) := hv
 simp only [Option.some.injEq, Prod.mk.injEq, DataW.held.injEq] at hv'
 rw [hrun, hv'.1]
end Go.Proofs.YtclpeepnngegaaaGreatDoor
