/-
  Layer 15: the cache's map asked, lengthened, an entry turned or taken out.
-/
import Derived.Test.YtnpipngiehohgaaNgCa
namespace Go.Proofs.Ytnpipngiehohgaa
open Go.RowKit Go.Maps

theorem zeroE (w : World) : (zeroValue 99).run Try.prog w = .ok (.pointer none) w := by kernel_rfl
theorem MA.look {w : World} {M : Nat} {D : DataW Value} {R : List KP} (h : MA w M D R) (p : KV) (kl : Lit) (hk : keyOf Try.prog 98 (.agg (kC p)) = some kl) : (Instr.lookup 100 (.map (some M)) (.agg (kC p)) false).run Try.prog w = .ok (ptr (fnd R p)) w := by
  obtain ⟨v, ps, hrun, hv⟩ := h.mo.lookup lawR Try.underlying100 (zeroE w) (zd := .held (.pointer none)) (zp := []) rfl hk
  rw [(h.hs p kl hk).2] at hv
  have hv' : some ((DataW.held v : DataW Value), ([] : List MemPlace)) = some (.held (ptr (fnd R p)), ps) := hv
  simp only [Option.some.injEq, Prod.mk.injEq, DataW.held.injEq] at hv'
  rw [hrun, hv'.1]
def ptE : Option EV → Value
  | none => .pointer none
  | some e => .pointer (some ⟨e.P, 0, none⟩)
theorem ptr_pt (E : List EV) (k : KV) : ptr (fnd (E.map EV.kp) k) = ptE (fE E k) := by
  rw [fnd_fE]
  cases fE E k <;> rfl
theorem CA.look {w : World} {t M : Nat} {c : CF} {E : List EV} (h : CA w t M c E) (p : KV) (hw : p.Wf) : (Instr.lookup 100 (.map (some M)) (.agg (kC p)) false).run Try.prog w = .ok (ptE (fE E p)) w := by
  obtain ⟨D, hD⟩ := h.ma
  obtain ⟨kl, hkl⟩ := kv_key p hw
  rw [hD.look p kl hkl, ptr_pt]
theorem yields_look {ops : Array Oper} {o : Oper} {a : Act} {S : World → Prop} (m x : Operand) (ho : o.op = .lookup 100 m x false) (t M : Nat) (c : CF) (E : List EV) (p : KV) (hp : p.Wf) (hm : a.eval m = .map (some M)) (hx : a.eval x = .agg (kC p)) (v : Value) (hv : ptE (fE E p) = v) (hw : Region.wanted o (yielded ops a.tmps) = true)
    (hS : ∀ w, S w → CA w t M c E) : YieldsIf Try.prog ops S o v a := by
  refine .inl ⟨hw, fun w hb => ?_⟩
  have hrun := (hS w hb).look p hp
  rw [hv] at hrun
  obtain ⟨dst, op, type, pos, after, guard⟩ := o
  simp only at ho
  subst ho
  simp only [execOp, Sem.run_bind, Sem.run_pure, hm, hx, hrun, Result.andThen_ok]
def updE (E : List EV) (k : KV) (e' : EV) : List EV := E.map (fun e => if eqP e.n.k k then e' else e)
def delE (E : List EV) (k : KV) : List EV := E.filter (fun e => !(eqP e.n.k k))
theorem del_map (E : List EV) (k : KV) : del (E.map EV.kp) k = (delE E k).map EV.kp := by
  unfold del delE
  rw [List.filter_map]
  rfl
theorem upd_map {E : List EV} {k : KV} {e e' : EV} (dj : E.Pairwise (fun a b => eqP a.n.k b.n.k = false)) (hf : fE E k = some e) (hk : e'.n.k = e.n.k) (hP : e'.P = e.P) : (updE E k e').map EV.kp = E.map EV.kp := by
  unfold updE
  rw [List.map_map]
  apply List.map_congr_left
  intro a ha
  simp only [Function.comp]
  by_cases h : eqP a.n.k k = true
  · rw [if_pos h]
    have := fE_mem dj ha h
    rw [hf] at this
    have e1 : e = a := Option.some.inj this
    subst e1
    unfold EV.kp
    rw [hk, hP]
  · rw [if_neg h]
theorem upd_mem {E : List EV} {k : KV} {e' a : EV} (ha : a ∈ updE E k e') : (a = e') ∨ (a ∈ E ∧ eqP a.n.k k = false) := by
  unfold updE at ha
  obtain ⟨b, hb, rfl⟩ := List.mem_map.1 ha
  by_cases h : eqP b.n.k k = true
  · rw [if_pos h]; exact .inl rfl
  · rw [if_neg h]; exact .inr ⟨hb, by simpa using h⟩
theorem upd_pw {Rel : EV → EV → Prop} (sym : ∀ a b, Rel a b → Rel b a) {E : List EV} {k : KV} {e' : EV} (dj : E.Pairwise (fun a b => eqP a.n.k b.n.k = false)) (h : E.Pairwise Rel) (hn : ∀ a ∈ E, eqP a.n.k k = false → Rel a e') : (updE E k e').Pairwise Rel := by
  unfold updE
  rw [List.pairwise_map]
  refine List.Pairwise.imp_of_mem ?_ (dj.and h)
  rintro a b ha hb ⟨hab, hr⟩
  by_cases h1 : eqP a.n.k k = true
  · have h2 : eqP b.n.k k = false := by
      rw [eqP_comm, ← eqP_left h1]; exact hab
    rw [if_pos h1, if_neg (by rw [h2]; decide)]
    exact sym _ _ (hn b hb h2)
  · rw [if_neg h1]
    have h1' : eqP a.n.k k = false := by simpa using h1
    by_cases h2 : eqP b.n.k k = true
    · rw [if_pos h2]
      exact hn a ha h1'
    · rw [if_neg h2]; exact hr
theorem fE_ne {E : List EV} {k : KV} {e a : EV} (hf : fE E k = some e) (ha : eqP a.n.k k = false) : a ≠ e := fun h => by
  have := (fE_some hf).2
  rw [← h, ha] at this
  cases this
theorem pw_ne {Rel : EV → EV → Prop} (sym : ∀ a b, Rel a b → Rel b a) {E : List EV} (h : E.Pairwise Rel) {a b : EV} (ha : a ∈ E) (hb : b ∈ E) (hne : a ≠ b) : Rel a b := by
  induction E with
  | nil => cases ha
  | cons x E ih =>
    obtain ⟨h1, h2⟩ := List.pairwise_cons.1 h
    rcases List.mem_cons.1 ha with rfl | ha'
    · rcases List.mem_cons.1 hb with rfl | hb'
      · exact absurd rfl hne
      · exact h1 b hb'
    · rcases List.mem_cons.1 hb with rfl | hb'
      · exact sym _ _ (h1 a ha')
      · exact ih h2 ha' hb'
theorem psym (a b : EV) (h : a.P ≠ b.P) : b.P ≠ a.P := fun e => h e.symm
theorem lsym (a b : EV) (h : ∀ g, a.lv.ownBlock = some g → b.lv.ownBlock ≠ some g) : ∀ g, b.lv.ownBlock = some g → a.lv.ownBlock ≠ some g := fun g h1 h2 => h g h2 h1
/-- an entry is another, at the same place -/
theorem CA.turned {A A' : World} {t M : Nat} {c : CF} {E : List EV} {k : KV} {e e' : EV} (h : CA A t M c E) (hf : fE E k = some e) (hk : e'.n.k = e.n.k) (hP : e'.P = e.P) (kk : Ch (fun q => q = e.P ∨ e.lv.ownBlock = some q) A A') (hE : EntAt A' e') (hL : LnAt A' e'.lv e'.n.ln) (hlv : ∀ g, e'.lv.ownBlock = some g → e.lv.ownBlock = some g ∨ A.heap.size ≤ g) :
    CA A' t M c (updE E k e') := by
  obtain ⟨n1, n2, n3⟩ := h.nt
  have hm := (fE_some hf).1
  have noP : ∀ a ∈ E, eqP a.n.k k = false → a.P ≠ e.P := fun a ha hne => pw_ne psym h.pd ha hm (fE_ne hf hne)
  have noL : ∀ a ∈ E, eqP a.n.k k = false → ∀ g, a.lv.ownBlock = some g → e.lv.ownBlock ≠ some g := fun a ha hne => pw_ne lsym h.ld ha hm (fE_ne hf hne)
  refine ⟨CchAt.ch h.cb kk ?_, ?_, fun a ha => ?_, fun a ha => ?_, ?_, ?_⟩
  · rintro (q | q)
    · exact (n2 e hm).1 q.symm
    · exact (n3 e hm).1 q
  · obtain ⟨D, hD⟩ := h.ma
    refine ⟨D, ?_⟩
    rw [upd_map h.dj hf hk hP]
    refine hD.ch kk ?_
    rintro (q | q)
    · exact (n2 e hm).2.1 q.symm
    · exact (n3 e hm).2 q
  · rcases upd_mem ha with rfl | ⟨h1, h2⟩
    · exact hE
    · refine (h.en a h1).ch kk ?_
      rintro (q | q)
      · exact noP a h1 h2 q
      · exact (n2 a h1).2.2 e hm q
  · rcases upd_mem ha with rfl | ⟨h1, h2⟩
    · exact hL
    · refine kk.owns (h.li a h1) (fun g hg => ?_)
      rintro (q | q)
      · exact (n2 e hm).2.2 a h1 (by rw [hg, q])
      · exact noL a h1 h2 g hg q
  · exact upd_pw psym h.dj h.pd (fun a ha hne => by rw [hP]; exact noP a ha hne)
  · refine upd_pw lsym h.dj h.ld (fun a ha hne g hg q => ?_)
    rcases hlv g q with q' | q'
    · exact noL a ha hne g hg q'
    · obtain ⟨cc, hc⟩ := (h.li a ha).kind g hg
      have := (Array.getElem?_eq_some_iff.1 hc).1
      omega
theorem CB.turned {A : World} {t M : Nat} {E : List EV} {k : KV} {e e' : EV} (hf : fE E k = some e) (hP : e'.P = e.P) (hlv : ∀ g, e'.lv.ownBlock = some g → e.lv.ownBlock = some g ∨ A.heap.size ≤ g) : ∀ q, CB t M (updE E k e') q → CB t M E q ∨ A.heap.size ≤ q := by
  have hm := (fE_some hf).1
  rintro q (h | h | ⟨a, ha, h⟩)
  · exact .inl (.inl h)
  · exact .inl (.inr (.inl h))
  · rcases upd_mem ha with rfl | ⟨h1, h2⟩
    · rcases h with h | h
      · exact .inl (.inr (.inr ⟨e, hm, .inl (by rw [h, hP])⟩))
      · rcases hlv q h with h' | h'
        · exact .inl (.inr (.inr ⟨e, hm, .inr h'⟩))
        · exact .inr h'
    · exact .inl (.inr (.inr ⟨a, h1, h⟩))
/-- an entry is taken out -/
theorem CA.gone {A A' : World} {t M : Nat} {c : CF} {E : List EV} (h : CA A t M c E) (k : KV) (kl : Lit) (hk : keyOf Try.prog 98 (.agg (kC k)) = some kl) (D : DataW Value) (hD : MA A M D (E.map EV.kp)) (hm : A'.ownsMap Try.prog 98 anyE M (E.map EV.kp).length (D.del kl)) (kk : Ch (fun q => q = M) A A') : CA A' t M c (delE E k) := by
  obtain ⟨n1, n2, n3⟩ := h.nt
  have sub : ∀ a ∈ delE E k, a ∈ E := fun a ha => (List.mem_filter.1 ha).1
  refine ⟨CchAt.ch h.cb kk n1, ⟨_, by rw [← del_map]; exact hD.dropped k kl hk hm⟩, fun a ha => (h.en a (sub a ha)).ch kk (n2 a (sub a ha)).2.1, fun a ha => kk.owns (h.li a (sub a ha)) (fun g hg q => ?_), h.pd.sublist List.filter_sublist, h.ld.sublist List.filter_sublist⟩
  have q' : g = M := q
  exact (n3 a (sub a ha)).2 (by rw [hg, q'])
theorem CB.gone {t M : Nat} {E : List EV} {k : KV} : ∀ q, CB t M (delE E k) q → CB t M E q := by
  rintro q (h | h | ⟨a, ha, h⟩)
  · exact .inl h
  · exact .inr (.inl h)
  · exact .inr (.inr ⟨a, (List.mem_filter.1 ha).1, h⟩)
/-- an entry is put in -/
theorem CA.added {A A' : World} {t M : Nat} {c : CF} {E : List EV} (h : CA A t M c E) (e : EV) (kl : Lit) (hk : keyOf Try.prog 98 (.agg (kC e.n.k)) = some kl) (hn : fE E e.n.k = none) (hw : e.n.k.Wf) (D : DataW Value) (hD : MA A M D (E.map EV.kp)) (hm : A'.ownsMap Try.prog 98 anyE M ((E.map EV.kp).length + 1) (D.put kl (.held (.pointer (some ⟨e.P, 0, none⟩))))) (kk : Ch (fun q => q = M) A A')
    (hE : EntAt A e) (hL : LnAt A e.lv e.n.ln) (fP : ∀ a ∈ E, a.P ≠ e.P) (fL : ∀ a ∈ E, ∀ g, a.lv.ownBlock = some g → e.lv.ownBlock ≠ some g) : CA A' t M c (E ++ [e]) := by
  obtain ⟨n1, n2, n3⟩ := h.nt
  obtain ⟨es, ck, hM⟩ := h.mblk
  have eM : e.P ≠ M := fun q => by unfold EntAt at hE; rw [q, hM] at hE; cases hE
  have lM : e.lv.ownBlock ≠ some M := fun q => by
    obtain ⟨cc, hc⟩ := hL.kind M q
    rw [hM] at hc; cases hc
  refine ⟨CchAt.ch h.cb kk n1, ⟨_, by rw [List.map_append]; exact hD.added e.kp kl hk (by rw [fnd_fE]; show Option.map EV.kp (fE E e.n.k) = none; rw [hn]; rfl) hw hm⟩, fun a ha => ?_, fun a ha => ?_, ?_, ?_⟩
  · rcases List.mem_append.1 ha with ha | ha
    · exact (h.en a ha).ch kk (n2 a ha).2.1
    · simp only [List.mem_singleton] at ha; subst ha; exact hE.ch kk eM
  · rcases List.mem_append.1 ha with ha | ha
    · exact kk.owns (h.li a ha) (fun g hg q => (n3 a ha).2 (by have q' : g = M := q; rw [hg, q']))
    · simp only [List.mem_singleton] at ha; subst ha
      exact kk.owns hL (fun g hg q => lM (by have q' : g = M := q; rw [hg, q']))
  · rw [List.pairwise_append]
    refine ⟨h.pd, by simp, fun a ha b hb => ?_⟩
    simp only [List.mem_singleton] at hb; subst hb; exact fP a ha
  · rw [List.pairwise_append]
    refine ⟨h.ld, by simp, fun a ha b hb => ?_⟩
    simp only [List.mem_singleton] at hb; subst hb; exact fL a ha
end Go.Proofs.Ytnpipngiehohgaa
