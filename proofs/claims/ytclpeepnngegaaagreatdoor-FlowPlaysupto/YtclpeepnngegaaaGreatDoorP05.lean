/-
  FlTa FlFn1: lemmas of the proof of FlowPlays, and walks through the functions that it calls.
-/
import Derived.Deep.CutBlock
import Derived.Deep.DeepCutAuto
import Derived.Test.YtclpeepnngegaaaGreatDoorP00
import Derived.Test.YtclpeepnngegaaaGreatDoorP04
namespace Go.Proofs.YtclpeepnngegaaaGreatDoor
open Go.RowKit Go.Maps
def FV.kp (e : FV) : KP := ⟨e.n.x, e.P⟩
def FV.kq (e : FV) : KQ := ⟨⟨e.n.x.pr, e.n.po⟩, e.P⟩
def isF (e : FV) : Bool := e.n.x.sV == 4
def fF (E : List FV) (k : TU) : Option FV := E.find? (fun e => eqP e.n.x k)
def fQ (E : List FV) (p : PL) : Option FV := (E.filter isF).find? (fun e => eqQ e.kq.p p)
abbrev Dj (E : List FV) : Prop := E.Pairwise (fun a b => eqP a.n.x b.n.x = false)
structure TA (w : World) (t M N : Nat) (c : CF) (E : List FV) : Prop where
  cb : TblAt w t c M N
  ma : ∃ D, MA w M D (E.map FV.kp)
  mb : ∃ D, MB w N D ((E.filter isF).map FV.kq)
  en : ∀ e ∈ E, FloAt w e.P e.n
  pd : E.Pairwise (fun a b => a.P ≠ b.P)
  mn : M ≠ N
def TB (t M N : Nat) (E : List FV) (q : Nat) : Prop := q = t ∨ q = M ∨ q = N ∨ ∃ e ∈ E, q = e.P
theorem fnd_fF (E : List FV) (k : TU) : fnd (E.map FV.kp) k = (fF E k).map FV.kp := by
 unfold fnd fF
 rw [List.find?_map]
 rfl
theorem fnq_fQ (E : List FV) (k : PL) : fnq ((E.filter isF).map FV.kq) k = (fQ E k).map FV.kq := by
 unfold fnq fQ
 rw [List.find?_map]
 rfl
theorem MA.edj {A : World} {M : Nat} {D : DataW Value} {E : List FV} (h : MA A M D (E.map FV.kp)) : Dj E := List.pairwise_map.1 h.dj
theorem TA.dj {w : World} {t M N : Nat} {c : CF} {E : List FV} (h : TA w t M N c E) : Dj E := by
 obtain ⟨D, hD⟩ := h.ma
 exact hD.edj
theorem TA.djq {w : World} {t M N : Nat} {c : CF} {E : List FV} (h : TA w t M N c E) : (E.filter isF).Pairwise (fun a b => eqQ a.kq.p b.kq.p = false) := by
 obtain ⟨D, hD⟩ := h.mb
 exact List.pairwise_map.1 hD.dj
theorem TA.wf {w : World} {t M N : Nat} {c : CF} {E : List FV} (h : TA w t M N c E) : ∀ e ∈ E, e.n.x.Wf := fun e he => by
 obtain ⟨D, hD⟩ := h.ma
 exact hD.wf e.kp (List.mem_map_of_mem he)
theorem TA.wfq {w : World} {t M N : Nat} {c : CF} {E : List FV} (h : TA w t M N c E) : ∀ e ∈ E, isF e = true → e.kq.p.Wf := fun e he hf => by
 obtain ⟨D, hD⟩ := h.mb
 exact hD.wf e.kq (List.mem_map_of_mem (List.mem_filter.2 ⟨he, hf⟩))
theorem fF_mem {E : List FV} (dj : Dj E) {e : FV} (he : e ∈ E) {k : TU} (hk : eqP e.n.x k = true) : fF E k = some e := by
 induction E with
 | nil => cases he
 | cons a E ih =>
  obtain ⟨d1, d2⟩ := List.pairwise_cons.1 dj
  unfold fF at ih ⊢
  rw [List.find?_cons]
  rcases List.mem_cons.1 he with rfl | h
  · rw [hk]
  · have : eqP a.n.x k = false := by
     have h1 := d1 e h
     rw [eqP_comm] at h1
     rw [eqP_comm, ← eqP_left hk]
     exact h1
    rw [this]
    exact ih d2 h
theorem fF_some {E : List FV} {k : TU} {e : FV} (h : fF E k = some e) : e ∈ E ∧ eqP e.n.x k = true := by
 unfold fF at h
 exact ⟨List.mem_of_find?_eq_some h, by simpa using List.find?_some h⟩
theorem fQ_some {E : List FV} {k : PL} {e : FV} (h : fQ E k = some e) : e ∈ E ∧ isF e = true ∧ eqQ e.kq.p k = true := by
 unfold fQ at h
 have h1 := List.mem_filter.1 (List.mem_of_find?_eq_some h)
 exact ⟨h1.1, h1.2, by simpa using List.find?_some h⟩
theorem fF_none {E : List FV} {k : TU} (h : fF E k = none) : ∀ e ∈ E, eqP e.n.x k = false := fun e he => by
 unfold fF at h
 have := List.find?_eq_none.1 h e he
 simpa using this
theorem fQ_mem {E : List FV} (dj : (E.filter isF).Pairwise (fun a b => eqQ a.kq.p b.kq.p = false)) {e : FV} (he : e ∈ E) (hf : isF e = true) {k : PL} (hk : eqQ e.kq.p k = true) : fQ E k = some e := by
 have hm : e ∈ E.filter isF := List.mem_filter.2 ⟨he, hf⟩
 unfold fQ
 generalize E.filter isF = L at dj hm
 induction L with
 | nil => cases hm
 | cons a L ih =>
  obtain ⟨d1, d2⟩ := List.pairwise_cons.1 dj
  rw [List.find?_cons]
  rcases List.mem_cons.1 hm with rfl | h
  · rw [hk]
  · have : eqQ a.kq.p k = false := by
     have h1 := d1 e h
     rw [eqQ_comm] at h1
     rw [eqQ_comm, ← eqQ_left hk]
     exact h1
    rw [this]
    exact ih d2 h
theorem TA.tlt {w : World} {t M N : Nat} {c : CF} {E : List FV} (h : TA w t M N c E) : ∀ q, TB t M N E q → q < w.heap.size := by
 rintro q (rfl | rfl | rfl | ⟨e, he, rfl⟩)
 · exact TblAt.lt h.cb
 · obtain ⟨D, hD⟩ := h.ma; exact hD.lt
 · obtain ⟨D, hD⟩ := h.mb; exact hD.lt
 · exact (h.en e he).lt
theorem TA.ch {S : Nat → Prop} {w w' : World} {t M N : Nat} {c : CF} {E : List FV} (h : TA w t M N c E) (k : Ch S w w') (hS : ∀ q, TB t M N E q → ¬ S q) : TA w' t M N c E := by
 refine ⟨TblAt.ch h.cb k (hS t (.inl rfl)), ?_, ?_, fun e he => (h.en e he).ch k (hS _ (.inr (.inr (.inr ⟨e, he, rfl⟩)))), h.pd, h.mn⟩
 · obtain ⟨D, hD⟩ := h.ma
   exact ⟨D, hD.ch k (hS M (.inr (.inl rfl)))⟩
 · obtain ⟨D, hD⟩ := h.mb
   exact ⟨D, hD.ch k (hS N (.inr (.inr (.inl rfl))))⟩
theorem TA.below {w w' : World} {t M N : Nat} {c : CF} {E : List FV} (h : TA w t M N c E) (k : Below w.heap.size w w') : TA w' t M N c E := h.ch (Ch.ofBelow (S := fun _ => False) k) (fun _ _ => id)
theorem MA.blk {w : World} {M : Nat} {D : DataW Value} {R : List KP} (h : MA w M D R) : ∃ es ck, w.heap[M]? = some (.map es ck) := by
 obtain ⟨es, ck, hb, _⟩ := h.mo
 exact ⟨es, ck, hb⟩
theorem MB.blk {w : World} {M : Nat} {D : DataW Value} {R : List KQ} (h : MB w M D R) : ∃ es ck, w.heap[M]? = some (.map es ck) := by
 obtain ⟨es, ck, hb, _⟩ := h.mo
 exact ⟨es, ck, hb⟩
theorem tbl_ne {w : World} {t M N g : Nat} {c : CF} {es : Array MapEntry} {ck : Nat} (h : TblAt w t c M N) (hm : w.heap[g]? = some (.map es ck)) : t ≠ g := fun e => by
 unfold TblAt at h
 rw [e, hm] at h; cases h
theorem flo_ne {w : World} {O g : Nat} {f : FN} {es : Array MapEntry} {ck : Nat} (h : FloAt w O f) (hm : w.heap[g]? = some (.map es ck)) : O ≠ g := fun e => by
 unfold FloAt at h
 rw [e, hm] at h; cases h
theorem flo_tbl {w : World} {t M N O : Nat} {c : CF} {f : FN} (h : TblAt w t c M N) (k : FloAt w O f) : O ≠ t := fun e => by
 unfold FloAt at k
 unfold TblAt at h
 rw [e, h] at k
 simp only [Option.some.injEq, Obj.cells.injEq] at k
 exact absurd k.2.1 (by decide)
theorem TA.nt {w : World} {t M N : Nat} {c : CF} {E : List FV} (h : TA w t M N c E) : t ≠ M ∧ t ≠ N ∧ ∀ e ∈ E, e.P ≠ t ∧ e.P ≠ M ∧ e.P ≠ N := by
 obtain ⟨D, hD⟩ := h.ma
 obtain ⟨D', hD'⟩ := h.mb
 obtain ⟨es, ck, hM⟩ := hD.blk
 obtain ⟨es', ck', hN⟩ := hD'.blk
 exact ⟨tbl_ne h.cb hM, tbl_ne h.cb hN, fun e he => ⟨flo_tbl h.cb (h.en e he), flo_ne (h.en e he) hM, flo_ne (h.en e he) hN⟩⟩
def ptF : Option FV → Value
 | none => .pointer none
 | some e => .pointer (some ⟨e.P, 0, none⟩)
theorem ptr_pt (E : List FV) (k : TU) : ptr (fnd (E.map FV.kp) k) = ptF (fF E k) := by
 rw [fnd_fF]
 cases fF E k <;> rfl
theorem ptq_pt (E : List FV) (k : PL) : ptq (fnq ((E.filter isF).map FV.kq) k) = ptF (fQ E k) := by
 rw [fnq_fQ]
 cases fQ E k <;> rfl
theorem TA.look {w : World} {t M N : Nat} {c : CF} {E : List FV} (h : TA w t M N c E) (p : TU) (hw : p.Wf) : (Instr.lookup 67 (.map (some M)) (.agg (tuC p)) false).run Tryz.prog w = .ok (ptF (fF E p)) w := by
 obtain ⟨D, hD⟩ := h.ma
 obtain ⟨kl, hkl⟩ := kv_key p hw
 rw [hD.look p kl hkl, ptr_pt]
theorem TA.lookq {w : World} {t M N : Nat} {c : CF} {E : List FV} (h : TA w t M N c E) (p : PL) (hw : p.Wf) : (Instr.lookup 68 (.map (some N)) (.agg (plC p)) false).run Tryz.prog w = .ok (ptF (fQ E p)) w := by
 obtain ⟨D, hD⟩ := h.mb
 obtain ⟨kl, hkl⟩ := pl_key p hw
 rw [hD.look p kl hkl, ptq_pt]
theorem yields_look {ops : Array Oper} {o : Oper} {a : Act} {S : World → Prop} (m x : Operand) (ho : o.op = .lookup 67 m x false) (t M N : Nat) (c : CF) (E : List FV) (p : TU) (hp : p.Wf) (hm : a.eval m = .map (some M)) (hx : a.eval x = .agg (tuC p)) (v : Value) (hv : ptF (fF E p) = v) (hw : Region.wanted o (yielded ops a.tmps) = true)
 (hS : ∀ w, S w → TA w t M N c E) : YieldsIf Tryz.prog ops S o v a := by
 refine .inl ⟨hw, fun w hb => ?_⟩
 have hrun := (hS w hb).look p hp
 rw [hv] at hrun
 obtain ⟨dst, op, type, pos, after, guard⟩ := o
 simp only at ho
 subst ho
 simp only [execOp, Sem.run_bind, Sem.run_pure, hm, hx, hrun, Result.andThen_ok]
theorem yields_lookq {ops : Array Oper} {o : Oper} {a : Act} {S : World → Prop} (m x : Operand) (ho : o.op = .lookup 68 m x false) (t M N : Nat) (c : CF) (E : List FV) (p : PL) (hp : p.Wf) (hm : a.eval m = .map (some N)) (hx : a.eval x = .agg (plC p)) (v : Value) (hv : ptF (fQ E p) = v) (hw : Region.wanted o (yielded ops a.tmps) = true)
 (hS : ∀ w, S w → TA w t M N c E) : YieldsIf Tryz.prog ops S o v a := by
 refine .inl ⟨hw, fun w hb => ?_⟩
 have hrun := (hS w hb).lookq p hp
 rw [hv] at hrun
 obtain ⟨dst, op, type, pos, after, guard⟩ := o
 simp only at ho
 subst ho
 simp only [execOp, Sem.run_bind, Sem.run_pure, hm, hx, hrun, Result.andThen_ok]
def updF (E : List FV) (k : TU) (e' : FV) : List FV := E.map (fun e => if eqP e.n.x k then e' else e)
def delF (E : List FV) (k : TU) : List FV := E.filter (fun e => !(eqP e.n.x k))
theorem del_map (E : List FV) (k : TU) : del (E.map FV.kp) k = (delF E k).map FV.kp := by
 unfold del delF
 rw [List.filter_map]
 rfl
theorem fF_ne {E : List FV} {k : TU} {e a : FV} (hf : fF E k = some e) (ha : eqP a.n.x k = false) : a ≠ e := fun h => by
 have := (fF_some hf).2
 rw [← h, ha] at this
 cases this
theorem pw_ne {Rel : FV → FV → Prop} (sym : ∀ a b, Rel a b → Rel b a) {E : List FV} (h : E.Pairwise Rel) {a b : FV} (ha : a ∈ E) (hb : b ∈ E) (hne : a ≠ b) : Rel a b := by
 induction E with
 | nil => cases ha
 | cons x E ih =>
  obtain ⟨h1, h2⟩ := List.pairwise_cons.1 h
  rcases List.mem_cons.1 ha with rfl | ha'
  · rcases List.mem_cons.1 hb with rfl | hb'
    · exact absurd rfl hne
    · exact h1 b hb'
  · rcases List.mem_cons.1 hb with rfl | hb'
    · exact sym _ _ (h1 a ha')
    · exact ih h2 ha' hb'
theorem psym (a b : FV) (h : a.P ≠ b.P) : b.P ≠ a.P := fun e => h e.symm
theorem qsym (a b : FV) (h : eqQ a.kq.p b.kq.p = false) : eqQ b.kq.p a.kq.p = false := by rw [eqQ_comm]; exact h
theorem delq_map {E : List FV} {k : TU} {e : FV} (dj : (E.filter isF).Pairwise (fun a b => eqQ a.kq.p b.kq.p = false)) (de : Dj E) (hf : fF E k = some e) (h4 : isF e = true) : delq ((E.filter isF).map FV.kq) e.kq.p = ((delF E k).filter isF).map FV.kq := by
 unfold delq delF
 rw [List.filter_map, List.filter_filter, List.filter_filter]
 congr 1
 apply List.filter_congr
 intro a ha
 simp only [Function.comp]
 have he := fF_some hf
 by_cases h1 : isF a = true
 · rw [h1, Bool.and_true, Bool.true_and]
   congr 1
   by_cases h2 : a = e
   · subst h2
     rw [eqQ_refl, he.2]
   · have h3 := pw_ne qsym dj (List.mem_filter.2 ⟨ha, h1⟩) (List.mem_filter.2 ⟨he.1, h4⟩) h2
     rw [h3]
     cases h5 : eqP a.n.x k with
     | false => rfl
     | true =>
      have := fF_mem de ha h5
      rw [hf] at this
      exact absurd (Option.some.inj this).symm h2
 · rw [show isF a = false by simpa using h1]
   simp
theorem del6_map {E : List FV} {k : TU} {e : FV} (de : Dj E) (hf : fF E k = some e) (h4 : isF e = false) : (delF E k).filter isF = E.filter isF := by
 unfold delF
 rw [List.filter_filter]
 apply List.filter_congr
 intro a ha
 by_cases h1 : isF a = true
 · rw [h1, Bool.true_and]
   cases h5 : eqP a.n.x k with
   | false => rfl
   | true =>
    have := fF_mem de ha h5
    rw [hf] at this
    rw [Option.some.inj this, h1] at h4
    cases h4
 · rw [show isF a = false by simpa using h1]
   simp
theorem upd_mem {E : List FV} {k : TU} {e' a : FV} (ha : a ∈ updF E k e') : (a = e') ∨ (a ∈ E ∧ eqP a.n.x k = false) := by
 unfold updF at ha
 obtain ⟨b, hb, rfl⟩ := List.mem_map.1 ha
 by_cases h : eqP b.n.x k = true
 · rw [if_pos h]; exact .inl rfl
 · rw [if_neg h]; exact .inr ⟨hb, by simpa using h⟩
theorem upd_one {E : List FV} {k : TU} {e : FV} (dj : Dj E) (hf : fF E k = some e) {a : FV} (ha : a ∈ E) (h : eqP a.n.x k = true) : a = e := by
 have := fF_mem dj ha h
 rw [hf] at this
 exact (Option.some.inj this).symm
theorem upd_map {E : List FV} {k : TU} {e e' : FV} (dj : Dj E) (hf : fF E k = some e) (hk : e'.n.x = e.n.x) (hP : e'.P = e.P) : (updF E k e').map FV.kp = E.map FV.kp := by
 unfold updF
 rw [List.map_map]
 apply List.map_congr_left
 intro a ha
 simp only [Function.comp]
 by_cases h : eqP a.n.x k = true
 · rw [if_pos h, upd_one dj hf ha h]
   unfold FV.kp
   rw [hk, hP]
 · rw [if_neg h]
theorem updq_map {E : List FV} {k : TU} {e e' : FV} (dj : Dj E) (hf : fF E k = some e) (hk : e'.n.x = e.n.x) (ho : e'.n.po = e.n.po) (hP : e'.P = e.P) : ((updF E k e').filter isF).map FV.kq = (E.filter isF).map FV.kq := by
 unfold updF
 rw [List.filter_map, List.map_map]
 have : E.filter (isF ∘ fun e => if eqP e.n.x k then e' else e) = E.filter isF := by
  apply List.filter_congr
  intro a ha
  simp only [Function.comp]
  by_cases h : eqP a.n.x k = true
  · rw [if_pos h, upd_one dj hf ha h]
    unfold isF
    rw [hk]
  · rw [if_neg h]
 rw [this]
 apply List.map_congr_left
 intro a ha
 simp only [Function.comp]
 by_cases h : eqP a.n.x k = true
 · rw [if_pos h, upd_one dj hf (List.mem_filter.1 ha).1 h]
   unfold FV.kq
   rw [hk, hP, ho]
 · rw [if_neg h]
theorem upd_pw {Rel : FV → FV → Prop} (sym : ∀ a b, Rel a b → Rel b a) {E : List FV} {k : TU} {e' : FV} (dj : Dj E) (h : E.Pairwise Rel) (hn : ∀ a ∈ E, eqP a.n.x k = false → Rel a e') : (updF E k e').Pairwise Rel := by
 unfold updF
 rw [List.pairwise_map]
 refine List.Pairwise.imp_of_mem ?_ (dj.and h)
 rintro a b ha hb ⟨hab, hr⟩
 by_cases h1 : eqP a.n.x k = true
 · have h2 : eqP b.n.x k = false := by
    rw [eqP_comm, ← eqP_left h1]; exact hab
   rw [if_pos h1, if_neg (by rw [h2]; decide)]
   exact sym _ _ (hn b hb h2)
 · rw [if_neg h1]
   have h1' : eqP a.n.x k = false := by simpa using h1
   by_cases h2 : eqP b.n.x k = true
   · rw [if_pos h2]
     exact hn a ha h1'
   · rw [if_neg h2]; exact hr
theorem TA.turned {A A' : World} {t M N : Nat} {c : CF} {E : List FV} {k : TU} {e e' : FV} (h : TA A t M N c E) (hf : fF E k = some e) (hk : e'.n.x = e.n.x) (ho : e'.n.po = e.n.po) (hP : e'.P = e.P) (kk : Ch (fun q => q = e.P) A A') (hE : FloAt A' e'.P e'.n) : TA A' t M N c (updF E k e') := by
 obtain ⟨n1, n2, n3⟩ := h.nt
 have hm := (fF_some hf).1
 have noP : ∀ a ∈ E, eqP a.n.x k = false → a.P ≠ e.P := fun a ha hne => pw_ne psym h.pd ha hm (fF_ne hf hne)
 refine ⟨TblAt.ch h.cb kk (fun q => (n3 e hm).1 (show t = e.P from q).symm), ?_, ?_, fun a ha => ?_, ?_, h.mn⟩
 · obtain ⟨D, hD⟩ := h.ma
   refine ⟨D, ?_⟩
   rw [upd_map h.dj hf hk hP]
   exact hD.ch kk (fun q => (n3 e hm).2.1 (show M = e.P from q).symm)
 · obtain ⟨D, hD⟩ := h.mb
   refine ⟨D, ?_⟩
   rw [updq_map h.dj hf hk ho hP]
   exact hD.ch kk (fun q => (n3 e hm).2.2 (show N = e.P from q).symm)
 · rcases upd_mem ha with rfl | ⟨h1, h2⟩
   · exact hE
   · exact (h.en a h1).ch kk (noP a h1 h2)
 · exact upd_pw psym h.dj h.pd (fun a ha hne => by rw [hP]; exact noP a ha hne)
theorem TA.gone {A A' : World} {t M N : Nat} {c : CF} {E : List FV} {k : TU} {D D' : DataW Value} (h : TA A t M N c E) (hD : MA A' M D ((delF E k).map FV.kp)) (hD' : MB A' N D' (((delF E k).filter isF).map FV.kq)) (kk : Ch (fun q => q = M ∨ q = N) A A') : TA A' t M N c (delF E k) := by
 obtain ⟨n1, n2, n3⟩ := h.nt
 have sub : ∀ a ∈ delF E k, a ∈ E := fun a ha => (List.mem_filter.1 ha).1
 refine ⟨TblAt.ch h.cb kk (fun q => q.elim n1 n2), ⟨D, hD⟩, ⟨D', hD'⟩, fun a ha => (h.en a (sub a ha)).ch kk (fun q => q.elim (n3 a (sub a ha)).2.1 (n3 a (sub a ha)).2.2), h.pd.sublist List.filter_sublist, h.mn⟩
theorem TB.gone {t M N : Nat} {E : List FV} {k : TU} : ∀ q, TB t M N (delF E k) q → TB t M N E q := by
 rintro q (h | h | h | ⟨a, ha, h⟩)
 · exact .inl h
 · exact .inr (.inl h)
 · exact .inr (.inr (.inl h))
 · exact .inr (.inr (.inr ⟨a, (List.mem_filter.1 ha).1, h⟩))
theorem TB.turned {t M N : Nat} {E : List FV} {k : TU} {e e' : FV} (hf : fF E k = some e) (hP : e'.P = e.P) : ∀ q, TB t M N (updF E k e') q → TB t M N E q := by
 rintro q (h | h | h | ⟨a, ha, h⟩)
 · exact .inl h
 · exact .inr (.inl h)
 · exact .inr (.inr (.inl h))
 · rcases upd_mem ha with rfl | ⟨h1, h2⟩
   · exact .inr (.inr (.inr ⟨e, (fF_some hf).1, by rw [h, hP]⟩))
   · exact .inr (.inr (.inr ⟨a, h1, h⟩))
end Go.Proofs.YtclpeepnngegaaaGreatDoor
namespace Go.Proofs.YtclpeepnngegaaaGreatDoor
open Go.RowKit Go.Maps
theorem TupAt.set {w : World} {O : Nat} {x x' : TU} (h : TupAt w O x) (i : Nat) (v : Value) (hC : (tuC x).setIfInBounds i v = tuC x') : TupAt (w.setCell ⟨O, i, none⟩ v) O x' := by
 unfold TupAt at h ⊢
 rw [heap_setCell_same w O i _ _ v h, hC]
theorem FloAt.set {w : World} {O : Nat} {x x' : FN} (h : FloAt w O x) (i : Nat) (v : Value) (hC : (flC x).setIfInBounds i v = flC x') : FloAt (w.setCell ⟨O, i, none⟩ v) O x' := by
 unfold FloAt at h ⊢
 rw [heap_setCell_same w O i _ _ v h, hC]
theorem set_sp (x : TU) (n : Int) : (tuC x).setIfInBounds 35 (.int .i64 n) = tuC { x with sp := n } := by
 simp only [tuC, List.setIfInBounds_toArray, List.set_cons_succ, List.set_cons_zero]
theorem set_dp (x : TU) (n : Int) : (tuC x).setIfInBounds 36 (.int .i64 n) = tuC { x with dp := n } := by
 simp only [tuC, List.setIfInBounds_toArray, List.set_cons_succ, List.set_cons_zero]
theorem TupAt.c0 {w : World} {O : Nat} {x : TU} (h : TupAt w O x) : w.cell? ⟨O, 0, none⟩ = some (.int .i64 x.pr) := h.cell 0
theorem TupAt.c1 {w : World} {O : Nat} {x : TU} (h : TupAt w O x) : w.cell? ⟨O, 1, none⟩ = some (.int .i64 x.sV) := h.cell 1
theorem TupAt.c18 {w : World} {O : Nat} {x : TU} (h : TupAt w O x) : w.cell? ⟨O, 18, none⟩ = some (.int .i64 x.dV) := h.cell 18
theorem TupAt.c35 {w : World} {O : Nat} {x : TU} (h : TupAt w O x) : w.cell? ⟨O, 35, none⟩ = some (.int .i64 x.sp) := h.cell 35
theorem TupAt.c36 {w : World} {O : Nat} {x : TU} (h : TupAt w O x) : w.cell? ⟨O, 36, none⟩ = some (.int .i64 x.dp) := h.cell 36
theorem FloAt.c0 {w : World} {O : Nat} {x : FN} (h : FloAt w O x) : w.cell? ⟨O, 0, none⟩ = some (.int .i64 x.x.pr) := h.cell 0
theorem FloAt.c1 {w : World} {O : Nat} {x : FN} (h : FloAt w O x) : w.cell? ⟨O, 1, none⟩ = some (.int .i64 x.x.sV) := h.cell 1
theorem FloAt.c37 {w : World} {O : Nat} {x : FN} (h : FloAt w O x) : w.cell? ⟨O, 37, none⟩ = some (.int .i64 x.po) := h.cell 37
theorem FloAt.c38 {w : World} {O : Nat} {x : FN} (h : FloAt w O x) : w.cell? ⟨O, 38, none⟩ = some (.int .i64 x.st) := h.cell 38
theorem FloAt.c39 {w : World} {O : Nat} {x : FN} (h : FloAt w O x) : w.cell? ⟨O, 39, none⟩ = some (.int .i64 x.le) := h.cell 39
theorem set_po (x : FN) (n : Int) : (flC x).setIfInBounds 37 (.int .i64 n) = flC { x with po := n } := by
 simp only [flC, List.setIfInBounds_toArray, List.set_cons_succ, List.set_cons_zero]
theorem set_st (x : FN) (n : Int) : (flC x).setIfInBounds 38 (.int .i64 n) = flC { x with st := n } := by
 simp only [flC, List.setIfInBounds_toArray, List.set_cons_succ, List.set_cons_zero]
theorem set_le (x : FN) (n : Int) : (flC x).setIfInBounds 39 (.int .i64 n) = flC { x with le := n } := by
 simp only [flC, List.setIfInBounds_toArray, List.set_cons_succ, List.set_cons_zero]
set_option maxHeartbeats 1600000 in
set_option maxRecDepth 100000 in
theorem reverse_any (x : TU) (w : World) : Calls Tryz.prog 38 #[.agg (tuC x)] w fun r w' => r = .returned (.agg (tuC x.rev)) ∧ Below w.heap.size w w' := by
 obtain ⟨W, B, HSZX, HOX, HLX, HWX, hb⟩ := zBx w (tuC x) 38
 have HBX : Hid (TupAt W B x) := hb
 obtain ⟨CX, hC⟩ : ∃ C, C = tuC x := ⟨_, rfl⟩
 rw [← hC] at HWX ⊢
 clear hb hC
 obtain ⟨Y, O, -, HOY, HLY, HEY, hb⟩ := zBx W (tuC xz) 38
 have HNY : Hid (TupAt Y O xz) := hb
 clear hb
 have HX1 : Hid (TupAt Y B x) := HBX.out.below HLY.out
 have HBO : Hid (B < O) := by have h1 := HSZX.out; have h2 := HOY.out; have h3 := HOX.out; show B < O; omega
 go_enter Tryz.func38, Tryz.ntmps38
 go_wp2_with (first | (rw [HOX.out, HWX.out]; refine wpList_alloc_tup rfl rfl ?_; rw [HEY.out, HOY.out]) | (refine wpList_mid_ipr (.tmp 3) rfl B 18 x.dV x.d rfl HX1.out.dst rfl ?_) | (refine wpList_mid_ipr (.tmp 5) rfl B 1 x.sV x.s rfl HX1.out.src rfl ?_) | (refine wpList_set_src (.tmp 7) (.tmp 4) rfl rfl B x x.dV x.d rfl rfl HX1.out rfl ?_))
 intro w2 h2 k2
 have H2 : Hid (TupAt w2 B { x with sV := x.dV, s := x.d } ∧ Ch (fun q => q = B) Y w2) := ⟨h2, k2⟩
 clear h2 k2
 go_wp2_with (first | (refine wpList_set_dst (.tmp 8) (.tmp 6) rfl rfl B _ x.sV x.s rfl rfl H2.out.1 rfl ?_))
 intro w3 h3 k3
 have H3 : Hid (TupAt w3 B ⟨x.pr, x.dV, x.d, x.sV, x.s, x.sp, x.dp⟩ ∧ Ch (fun q => q = B) Y w3) := ⟨h3, H2.out.2.trans k3 (fun _ _ h => h)⟩
 have c35 := H3.out.1.c35
 have c36 := H3.out.1.c36
 have f35 := H3.out.1.fz 35
 have f36 := H3.out.1.fz 36
 simp only at c35 c36
 clear h3 k3 H2
 go_upto_region 3 with fail
 obtain ⟨w4, hw4⟩ : ∃ w4, w4 = (w3.setCell ⟨B, 35, none⟩ (.int .i64 x.dp)).setCell ⟨B, 36, none⟩ (.int .i64 x.sp) := ⟨_, rfl⟩
 rw [← hw4]
 have H4 : Hid (TupAt w4 B x.rev ∧ Ch (fun q => q = B) Y w4) := by
  rw [hw4]
  exact ⟨TupAt.set (TupAt.set H3.out.1 35 (.int .i64 x.dp) (set_sp _ _)) 36 (.int .i64 x.sp) (set_dp _ _), (H3.out.2.set _ _ rfl).set _ _ rfl⟩
 clear hw4 c35 c36 f35 f36 H3
 have HO4 : Hid (TupAt w4 O xz) := HNY.out.ch H4.out.2 (fun q => by have := HBO.out; have q' : O = B := q; omega)
 go_wp2_with (first | (refine wpList_load_tup (.tmp 1) rfl B x.rev rfl H4.out.1 rfl ?_) | (refine wpList_store_tup (.tmp 2) (.tmp 15) rfl rfl O xz x.rev rfl rfl HO4.out rfl ?_))
 intro w5 h5 k5
 go_wp2_with fail
 refine bodyPost_ret (results_tup rfl _ _ O _ rfl h5) rfl ?_
 have k6 := H4.out.2.mono (T := fun q => q = B ∨ q = O) (fun _ _ h => .inl h)
 have k7 : Ch (fun q => q = B ∨ q = O) Y w5 := k6.trans k5 (fun _ _ h => .inr h)
 have b1 := bthen HLX.out HLY.out
 refine ⟨rfl, b1.trans (k7.below (fun q hq => by have h1 := HOX.out; have h2 := HBO.out; rcases hq with rfl | rfl <;> omega) b1.size)⟩
def inR (n lo hi : Int) : Bool := decide (lo ≤ n) && decide (n ≤ hi)
set_option maxHeartbeats 1600000 in
set_option maxRecDepth 100000 in
theorem within_any (n lo hi : Int) (w : World) : Calls Tryz.prog 43 #[.int .i64 n, .int .i64 lo, .int .i64 hi] w fun r w' => r = .returned (.bool (inR n lo hi)) ∧ w = w' := by
 go_enter Tryz.func43, Tryz.ntmps43
 by_cases h1 : lo ≤ n
 · have q1 : decide (lo ≤ n) = true := decide_eq_true h1
   go_wp2
   go_ret
   exact ⟨by simp [inR, q1], rfl⟩
 · have q1 : decide (lo ≤ n) = false := decide_eq_false h1
   go_wp2
   go_ret
   exact ⟨by simp [inR, q1], rfl⟩
def tpB (x : TU) : Bool := vld x.sV x.s && vld x.dV x.d && x.sV == x.dV && inR x.sp 0 65535 && inR x.dp 0 65535
set_option maxHeartbeats 1600000 in
set_option maxRecDepth 100000 in
theorem isTuple_any (x : TU) (w : World) (hx : x.Wf) : Calls Tryz.prog 47 #[.agg (tuC x)] w fun r w' => r = .returned (.bool (tpB x)) ∧ Below w.heap.size w w' := by
 have HX : Hid x.Wf := hx
 clear hx
 obtain ⟨W, B, HSZX, HOX, HLX, HWX, hb⟩ := zBx w (tuC x) 38
 have HBX : Hid (TupAt W B x) := hb
 obtain ⟨CX, hC⟩ : ∃ C, C = tuC x := ⟨_, rfl⟩
 rw [← hC] at HWX ⊢
 clear hb hC
 have Q1 : Hid _ := valid_any x.sV x.s W HX.out.s
 obtain ⟨b1, hb1⟩ : ∃ b, vld x.sV x.s = b := ⟨_, rfl⟩
 obtain ⟨b2, hb2⟩ : ∃ b, vld x.dV x.d = b := ⟨_, rfl⟩
 obtain ⟨b3, hb3⟩ : ∃ b, (x.sV == x.dV) = b := ⟨_, rfl⟩
 obtain ⟨b4, hb4⟩ : ∃ b, inR x.sp 0 65535 = b := ⟨_, rfl⟩
 obtain ⟨b5, hb5⟩ : ∃ b, inR x.dp 0 65535 = b := ⟨_, rfl⟩
 rw [hb1] at Q1
 have HT : Hid (tpB x = (b1 && b2 && b3 && b4 && b5)) := by show _ = _; unfold tpB; rw [hb1, hb2, hb3, hb4, hb5]
 have HB2 : Hid (vld x.dV x.d = b2) := hb2
 have HB4 : Hid (inR x.sp 0 65535 = b4 ∧ inR x.dp 0 65535 = b5) := ⟨hb4, hb5⟩
 clear hb1 hb2 hb4 hb5
 go_enter Tryz.func47, Tryz.ntmps47
 go_upto_region 1 with fail
 rw [HOX.out, HWX.out]
 go_wp2_with (first | (refine wpList_mid_ipr (.tmp 3) rfl B 1 x.sV x.s rfl HBX.out.src rfl ?_))
 refine Calls.mono Q1.out ?_
 rintro e w1 ⟨rfl, c1⟩
 have H1 : Hid (TupAt w1 B x ∧ Below w.heap.size w w1) := ⟨HBX.out.below c1, bthen HLX.out c1⟩
 clear c1 Q1
 cases b1 with
 | false =>
  go_wp2_with fail
  go_ret
  exact ⟨by rw [HT.out]; rfl, H1.out.2⟩
 | true =>
  have Q2 : Hid _ := valid_any x.dV x.d w1 HX.out.d
  rw [HB2.out] at Q2
  go_wp2_with (first | (refine wpList_mid_ipr (.tmp 7) rfl B 18 x.dV x.d rfl H1.out.1.dst rfl ?_))
  refine Calls.mono Q2.out ?_
  rintro e w2 ⟨rfl, c2⟩
  have H2 : Hid (TupAt w2 B x ∧ Below w.heap.size w w2) := ⟨H1.out.1.below c2, bthen H1.out.2 c2⟩
  clear c2 Q2 H1
  cases b2 with
  | false =>
   go_wp2_with fail
   go_ret
   exact ⟨by rw [HT.out]; rfl, H2.out.2⟩
  | true =>
   have d1 := H2.out.1.c1
   have d2 := H2.out.1.c18
   have d3 := H2.out.1.c35
   have d4 := H2.out.1.c36
   have Q4 : Hid _ := within_any x.sp 0 65535 w2
   have Q5 : Hid _ := within_any x.dp 0 65535 w2
   rw [HB4.out.1] at Q4
   rw [HB4.out.2] at Q5
   cases b3 with
   | false =>
    go_wp2_with fail
    go_ret
    exact ⟨by rw [HT.out]; rfl, H2.out.2⟩
   | true =>
    go_wp2_with fail
    refine Calls.mono Q4.out ?_
    rintro e w3 ⟨rfl, rfl⟩
    cases b4 with
    | false =>
     go_wp2_with fail
     go_ret
     exact ⟨by rw [HT.out]; rfl, H2.out.2⟩
    | true =>
     go_wp2_with fail
     refine Calls.mono Q5.out ?_
     rintro e w3 ⟨rfl, rfl⟩
     go_wp2_with fail
     go_ret
     exact ⟨by rw [HT.out]; rfl, H2.out.2⟩
def ecB (x : TU) : Bool := (x.pr == 1 && x.sV == 4) || (x.pr == 58 && x.sV == 6)
set_option maxHeartbeats 1600000 in
set_option maxRecDepth 100000 in
theorem isEcho_any (x : TU) (w : World) : Calls Tryz.prog 48 #[.agg (tuC x)] w fun r w' => r = .returned (.bool (ecB x)) ∧ Below w.heap.size w w' := by
 obtain ⟨W, B, HSZX, HOX, HLX, HWX, hb⟩ := zBx w (tuC x) 38
 have HBX : Hid (TupAt W B x) := hb
 obtain ⟨CX, hC⟩ : ∃ C, C = tuC x := ⟨_, rfl⟩
 rw [← hC] at HWX ⊢
 clear hb hC
 have d0 := HBX.out.c0
 have d1 := HBX.out.c1
 obtain ⟨b1, hb1⟩ : ∃ b, (x.pr == 1) = b := ⟨_, rfl⟩
 obtain ⟨b2, hb2⟩ : ∃ b, (x.sV == 4) = b := ⟨_, rfl⟩
 obtain ⟨b3, hb3⟩ : ∃ b, (x.pr == 58) = b := ⟨_, rfl⟩
 obtain ⟨b4, hb4⟩ : ∃ b, (x.sV == 6) = b := ⟨_, rfl⟩
 have HT : Hid (ecB x = ((b1 && b2) || (b3 && b4))) := by show _ = _; unfold ecB; rw [hb1, hb2, hb3, hb4]
 go_enter Tryz.func48, Tryz.ntmps48
 go_upto_region 1 with fail
 rw [HOX.out, HWX.out]
 cases b1 <;> cases b2 <;> cases b3 <;> (go_wp2_with fail; go_ret; exact ⟨by rw [HT.out]; simp, HLX.out⟩)
def ckE (x : TU) : Int := if tpB x then (if !(x.pr == 6) && !(x.pr == 17) && !(ecB x) then 174 else 0) else 170
set_option maxHeartbeats 1600000 in
set_option maxRecDepth 100000 in
theorem check_any (x : TU) (w : World) (hx : x.Wf) : Calls Tryz.prog 26 #[.agg (tuC x)] w fun r w' => r = .returned (.int .i64 (ckE x)) ∧ Below w.heap.size w w' := by
 have HX : Hid x.Wf := hx
 clear hx
 obtain ⟨W, B, HSZX, HOX, HLX, HWX, hb⟩ := zBx w (tuC x) 38
 have HBX : Hid (TupAt W B x) := hb
 obtain ⟨CX, hC⟩ : ∃ C, C = tuC x := ⟨_, rfl⟩
 rw [← hC] at HWX ⊢
 clear hb hC
 have Q1 : Hid _ := isTuple_any x W HX.out
 obtain ⟨b1, hb1⟩ : ∃ b, tpB x = b := ⟨_, rfl⟩
 obtain ⟨b2, hb2⟩ : ∃ b, (x.pr == 6) = b := ⟨_, rfl⟩
 obtain ⟨b3, hb3⟩ : ∃ b, (x.pr == 17) = b := ⟨_, rfl⟩
 obtain ⟨b4, hb4⟩ : ∃ b, ecB x = b := ⟨_, rfl⟩
 have HT : Hid (ckE x = if b1 then (if !b2 && !b3 && !b4 then 174 else 0) else 170) := by show _ = _; unfold ckE; rw [hb1, hb2, hb3, hb4]
 rw [hb1] at Q1
 have HB4 : Hid (ecB x = b4) := hb4
 have q2 : (x.pr != 6) = !b2 := by rw [← hb2]; rfl
 have q3 : (x.pr != 17) = !b3 := by rw [← hb3]; rfl
 clear hb1 hb4 hb2 hb3
 go_enter Tryz.func26, Tryz.ntmps26
 go_upto_region 1 with fail
 rw [HOX.out, HWX.out]
 go_wp2_with (first | (refine wpList_load_tup (.tmp 1) rfl B x rfl HBX.out rfl ?_))
 refine Calls.mono Q1.out ?_
 rintro e w1 ⟨rfl, c1⟩
 have H1 : Hid (TupAt w1 B x ∧ Below w.heap.size w w1) := ⟨HBX.out.below c1, bthen HLX.out c1⟩
 have d0 := H1.out.1.c0
 clear c1 Q1
 cases b1 with
 | false =>
  go_wp2_with fail
  go_ret
  exact ⟨by rw [HT.out]; rfl, H1.out.2⟩
 | true =>
  cases b2 with
  | true =>
   go_wp2_with fail
   go_ret
   exact ⟨by rw [HT.out]; rfl, H1.out.2⟩
  | false =>
   cases b3 with
   | true =>
    go_wp2_with fail
    go_ret
    exact ⟨by rw [HT.out]; rfl, H1.out.2⟩
   | false =>
    have Q2 : Hid _ := isEcho_any x w1
    rw [HB4.out] at Q2
    go_wp2_with (first | (refine wpList_load_tup (.tmp 1) rfl B x rfl H1.out.1 rfl ?_))
    refine Calls.mono Q2.out ?_
    rintro e w2 ⟨rfl, c2⟩
    have H2 : Hid (Below w.heap.size w w2) := bthen H1.out.2 c2
    clear c2 Q2
    cases b4 with
    | false =>
     go_wp2_with fail
     go_ret
     exact ⟨by rw [HT.out]; rfl, H2.out⟩
    | true =>
     go_wp2_with fail
     go_ret
     exact ⟨by rw [HT.out]; rfl, H2.out⟩
end Go.Proofs.YtclpeepnngegaaaGreatDoor
