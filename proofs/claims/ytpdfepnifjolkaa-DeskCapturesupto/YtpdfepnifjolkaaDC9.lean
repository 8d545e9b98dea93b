/-
  Layer 20, captures: a list of frames of one's own, each with bytes of its own and more behind them: written, lengthened, cut.
-/
import Derived.Test.YtpdfepnifjolkaaDC8
namespace Go.Proofs.Ytpdfepnifjolkaa
open Go.RowKit Go.ChangeShapes Go.WideShapes

theorem pw_set {α : Type} {R : α → α → Prop} (sy : ∀ a b, R a b → R b a) {l : List α} {i : Nat} {x : α} (h : l.Pairwise R) (hx : ∀ j y, j ≠ i → l[j]? = some y → R x y) : (l.set i x).Pairwise R := by
  rw [List.pairwise_iff_getElem] at h ⊢
  intro a b ha hb hab
  rw [List.length_set] at ha hb
  rw [List.getElem_set, List.getElem_set]
  by_cases e1 : i = a
  · subst e1
    rw [if_pos rfl, if_neg (by omega)]
    exact hx b _ (by omega) (List.getElem?_eq_getElem hb)
  · rw [if_neg e1]
    by_cases e2 : i = b
    · subst e2
      rw [if_pos rfl]
      exact sy _ _ (hx a _ (by omega) (List.getElem?_eq_getElem ha))
    · rw [if_neg e2]
      exact h a b ha hb hab
theorem pw_at {α : Type} {R : α → α → Prop} (sy : ∀ a b, R a b → R b a) {l : List α} (h : l.Pairwise R) {i j : Nat} {x y : α} (hx : l[i]? = some x) (hy : l[j]? = some y) (hne : j ≠ i) : R x y := by
  rw [List.pairwise_iff_getElem] at h
  obtain ⟨h1, rfl⟩ := List.getElem?_eq_some_iff.1 hx
  obtain ⟨h2, rfl⟩ := List.getElem?_eq_some_iff.1 hy
  by_cases hlt : i < j
  · exact h i j h1 h2 hlt
  · exact sy _ _ (h j i h2 h1 (by omega))
theorem own_len (a : Option Addr) (n c n' c' : Nat) : (Value.slice a n c).ownBlock = (Value.slice a n' c').ownBlock := by
  cases a with
  | none => rfl
  | some x =>
    obtain ⟨b, off, sp⟩ := x
    cases off <;> cases sp <;> rfl
abbrev FX := CE × List Nat
def fxL (e : FX) : List Value := ceL e.1
theorem fxL_len (e : FX) : (fxL e).length = 4 := rfl
theorem fxL_one (e : FX) : ∀ u ∈ fxL e, u.oneCell' = true := ceL_one e.1
/-- the whole row of a frame's bytes -/
def fxV (e : FX) : Value := .slice e.1.a (e.1.d.length + e.2.length) e.1.cap
/-- two rows are apart -/
def Apt (c e : FX) : Prop := ∀ g, (fxV c).ownBlock = some g → (fxV e).ownBlock ≠ some g
theorem Apt.sy (a b : FX) (h : Apt a b) : Apt b a := fun g hg he => h g he hg
structure CapsX (w : World) (base : Nat) (v : Value) (E : List FX) : Prop where
  l : GL 4 fxL 37 w base v E
  d : ∀ (i : Nat) (e : FX), E[i]? = some e → OwnB w base (fxV e) (e.1.d.length + e.2.length) (e.1.d ++ e.2)
  ne : E.Pairwise Apt
theorem own_ce (c : CE) : (fxV (c, [])).ownBlock = c.v.ownBlock := rfl
theorem Caps.x {w : World} {base : Nat} {v : Value} {L : List CE} (h : Caps w base v L) : CapsX w base v (L.map (fun c => (c, []))) := by
  refine ⟨?_, ?_, ?_⟩
  · have h1 := h.l
    unfold GL at h1 ⊢
    rw [List.length_map, List.flatMap_map]
    exact h1
  · intro i e he
    obtain ⟨c, hc, rfl⟩ := List.mem_map.1 (List.mem_of_getElem? he)
    simpa [fxV, CE.v] using h.d c hc
  · rw [List.pairwise_map]
    exact h.ne
section
variable {w : World} {base : Nat} {v : Value} {E : List FX}
theorem CapsX.dm {w : World} {base : Nat} {v : Value} {E : List FX} (h : CapsX w base v E) (e : FX) (he : e ∈ E) : OwnB w base (fxV e) (e.1.d.length + e.2.length) (e.1.d ++ e.2) := by
  obtain ⟨i, hi⟩ := List.getElem?_of_mem he
  exact h.d i e hi
theorem CapsX.nil (w : World) (base : Nat) : CapsX w base (.slice none 0 0) [] := ⟨GL.nil, by simp, List.Pairwise.nil⟩
theorem CapsX.ch {S : Nat → Prop} {b : World} (h : CapsX w base v E) (k : Ch S w b) (h1 : ∀ g, v.ownBlock = some g → ¬ S g) (h2 : ∀ c ∈ E, ∀ g, (fxV c).ownBlock = some g → ¬ S g) : CapsX b base v E :=
  ⟨h.l.ch k h1, fun i c hc => k.owns (h.d i c hc) (h2 c (List.mem_of_getElem? hc)), h.ne⟩
theorem CapsX.below {b : World} (h : CapsX w base v E) (k : Below w.heap.size w b) : CapsX b base v E := h.ch (Ch.ofBelow (S := fun _ => False) k) (fun _ _ => id) (fun _ _ _ _ => id)
theorem CapsX.lt (h : CapsX w base v E) : ∀ c ∈ E, ∀ g, (fxV c).ownBlock = some g → base ≤ g ∧ g < w.heap.size := fun c hc g hg => ⟨((h.dm c hc).kind g hg).1, ((h.dm c hc).kind g hg).2.1⟩
theorem CapsX.apart (h : CapsX w base v E) : ∀ c ∈ E, ∀ g, (fxV c).ownBlock = some g → ¬ v.ownBlock = some g := fun c hc g hg e => by
  obtain ⟨_, _, x, hx⟩ := (h.dm c hc).kind g hg
  obtain ⟨_, _, y, hy⟩ := h.l.kind g e
  rw [hx] at hy
  simp at hy
theorem CapsX.push {w0 w' : World} {v' : Value} {c : FX} (h : CapsX w base v E) (hg : GL 4 fxL 37 w' base v' (E ++ [c])) (k : w.grownBy w' v.ownBlock) (hc : OwnB w w0.heap.size (fxV c) (c.1.d.length + c.2.length) (c.1.d ++ c.2)) (hb : base ≤ w0.heap.size) (hlt : ∀ e ∈ E, ∀ g, (fxV e).ownBlock = some g → g < w0.heap.size) : CapsX w' base v' (E ++ [c]) := by
  have kc := Ch.ofGrown k
  have hcn : ∀ g, (fxV c).ownBlock = some g → ¬ v.ownBlock = some g := fun g hg e => by
    obtain ⟨_, _, x, hx⟩ := hc.kind g hg
    obtain ⟨_, _, y, hy⟩ := h.l.kind g e
    rw [hx] at hy
    simp at hy
  refine ⟨hg, fun i e hie => ?_, ?_⟩
  · have he := List.mem_of_getElem? hie
    rcases List.mem_append.1 he with he | he
    · exact kc.owns (h.dm e he) (h.apart e he)
    · simp only [List.mem_cons, List.not_mem_nil, or_false] at he
      subst he
      exact kc.owns (owns_mono hc hb) hcn
  · refine List.pairwise_append.2 ⟨h.ne, List.pairwise_cons.2 ⟨by simp, List.Pairwise.nil⟩, fun e he x hx g hgg hq => ?_⟩
    simp only [List.mem_cons, List.not_mem_nil, or_false] at hx
    subst hx
    have h1 := hlt e he g hgg
    have h2 := (hc.lt g hq).1
    omega
theorem OwnB.seg0 {a : Option Addr} {n c : Nat} {l x : List Nat} (h : OwnB w base (.slice a n c) n (l ++ x)) : Seg .u8 w a (toI l) := by
  obtain ⟨a', c', e, hs⟩ := owns_seg h
  simp only [Value.slice.injEq] at e
  rw [← e.1] at hs
  have h1 := hs.1.part0 l.length (by rw [toI_len, List.length_append]; omega)
  rw [toI_take, List.take_left] at h1
  exact h1
theorem CapsX.inn (h : CapsX w base v E) (h256 : ∀ c ∈ E, ∀ x ∈ c.1.d, x < 256) : ∃ va vc, v = .slice va E.length vc ∧ CapsIn w va (E.map Prod.fst) := by
  obtain ⟨va, vc, e, hg⟩ := h.l.listG (ok := fun c => Seg .u8 w c.1.a (toI c.1.d) ∧ ∀ x ∈ c.1.d, x < 256) fxL_len (fun c hc => ⟨(h.dm c hc).seg0, h256 c hc⟩)
  refine ⟨va, vc, e, ?_⟩
  rcases hg with h0 | ⟨b, off, ha, hlt, hc⟩
  · left; rw [h0]; rfl
  · refine .inr ⟨b, off, ha, hlt, fun i o ho => ?_⟩
    rw [List.getElem?_map] at ho
    cases hE : E[i]? with
    | none => rw [hE] at ho; cases ho
    | some x =>
      rw [hE, Option.map_some, Option.some.injEq] at ho
      subst ho
      exact hc i x hE
/-- one frame's cells in the list -/
theorem CapsX.at (h : CapsX w base v E) {i : Nat} {e : FX} (he : E[i]? = some e) : ∃ g cap, v = .slice (some ⟨g, 0, none⟩) E.length cap ∧ base ≤ g ∧ g < w.heap.size ∧ (∀ j, j < 4 → w.cell? ⟨g, i * 4 + j, none⟩ = (ceL e.1)[j]?) ∧ ∀ j, w.frozen? ⟨g, j, none⟩ = false := by
  obtain ⟨g, cap, rfl, hb, hlt, hr⟩ := h.l.at fxL_len i e he
  refine ⟨g, cap, rfl, hb, hlt, fun j hj => ?_, fun j => h.l.frozen j⟩
  have h1 : (ceL e.1)[j]? = some ((ceL e.1)[j]'(by rw [ceL_len]; exact hj)) := List.getElem?_eq_getElem _
  rw [h1]
  exact hr j _ h1
/-- a frame's row is another, its cells in the list the same -/
theorem CapsX.row {w1 : World} (h : CapsX w base v E) {i : Nat} {e e' : FX} (he : E[i]? = some e) (hL : fxL e' = fxL e) (k : Ch (fun q => (fxV e).ownBlock = some q) w w1) (ho : OwnB w1 base (fxV e') (e'.1.d.length + e'.2.length) (e'.1.d ++ e'.2)) (hb : (fxV e').ownBlock = (fxV e).ownBlock) : CapsX w1 base v (E.set i e') := by
  have hm := List.mem_of_getElem? he
  have hi := (List.getElem?_eq_some_iff.1 he)
  refine ⟨?_, ?_, pw_set Apt.sy h.ne (fun j y hj hy g hg => by rw [hb] at hg; exact pw_at Apt.sy h.ne he hy hj g hg)⟩
  · have h1 := h.l.ch k (fun g hg hq => h.apart e hm g hq hg)
    unfold GL at h1 ⊢
    rw [List.length_set]
    have e1 : (E.set i e').flatMap fxL = E.flatMap fxL := by
      rw [List.set_eq_take_append_cons_drop, if_pos hi.1, List.flatMap_append, List.flatMap_cons, hL]
      conv => rhs; rw [← List.take_append_drop i E, List.drop_eq_getElem_cons hi.1, hi.2, List.flatMap_append, List.flatMap_cons]
    rw [e1]
    exact h1
  · intro t c hc
    rw [List.getElem?_set] at hc
    by_cases ht : i = t
    · rw [if_pos ht, if_pos hi.1, Option.some.injEq] at hc
      subst hc
      exact ho
    · rw [if_neg ht] at hc
      exact k.owns (h.d t c hc) (fun g hg hq => pw_at Apt.sy h.ne he hc (fun q => ht q.symm) g hq hg)
theorem flat_set3 (e' : FX) (u : Value) : ∀ (E : List FX) (i : Nat) (e : FX), E[i]? = some e → fxL e' = [.int .i64 e.1.tk, .int .i64 e.1.pt, .bool e.1.ou, u] → (E.flatMap fxL).set (i * 4 + 3) u = (E.set i e').flatMap fxL := by
  intro E
  induction E with
  | nil => intro i e he; simp at he
  | cons s E ih =>
    intro i e he hu
    cases i with
    | zero =>
      simp only [List.getElem?_cons_zero, Option.some.injEq] at he
      subst he
      rw [List.set_cons_zero, List.flatMap_cons, List.flatMap_cons, hu]
      rfl
    | succ i =>
      simp only [List.getElem?_cons_succ] at he
      rw [List.set_cons_succ, List.flatMap_cons, List.flatMap_cons, List.set_append_right _ _ (by rw [fxL_len]; omega), fxL_len, show (i + 1) * 4 + 3 - 4 = i * 4 + 3 by omega, ih i e he hu]
/-- a frame's slice of bytes is another -/
theorem CapsX.put {w1 : World} {g n cap : Nat} (h : CapsX w base (.slice (some ⟨g, 0, none⟩) n cap) E) {i : Nat} {e e' : FX} (he : E[i]? = some e) (hL : fxL e' = [.int .i64 e.1.tk, .int .i64 e.1.pt, .bool e.1.ou, .slice e'.1.a e'.1.d.length e'.1.cap]) (k : Ch (fun q => (fxV e).ownBlock = some q) w w1) (ho : OwnB w1 base (fxV e') (e'.1.d.length + e'.2.length) (e'.1.d ++ e'.2)) (hb : ∀ q, (fxV e').ownBlock = some q → (fxV e).ownBlock = some q ∨ w.heap.size ≤ q) : CapsX (w1.setCell ⟨g, i * 4 + 3, none⟩ (.slice e'.1.a e'.1.d.length e'.1.cap)) base (.slice (some ⟨g, 0, none⟩) n cap) (E.set i e') := by
  have hm := List.mem_of_getElem? he
  have hi := (List.getElem?_eq_some_iff.1 he)
  have hgl := h.l.kind g rfl
  have h1 := h.l.ch k (fun g' hg hq => h.apart e hm g' hq hg)
  have kc : Ch (fun q => q = g) w1 (w1.setCell ⟨g, i * 4 + 3, none⟩ (.slice e'.1.a e'.1.d.length e'.1.cap)) := (Ch.refl (fun q => q = g) w1).set ⟨g, i * 4 + 3, none⟩ _ rfl
  refine ⟨?_, ?_, pw_set Apt.sy h.ne (fun j y hj hy q hq hy2 => ?_)⟩
  · have hn := h1.len
    have h2 : w1.ownsRow base 37 4 (.slice (some ⟨g, 0, none⟩) n cap) n (E.flatMap fxL) := by have h0 := h1; unfold GL at h0; rw [← hn] at h0; exact h0
    have h3 := (h2.stored (i * 4 + 3) (.slice e'.1.a e'.1.d.length e'.1.cap)).1
    rw [flat_set3 e' _ E i e he hL] at h3
    show World.ownsRow _ base _ 4 _ (E.set i e').length _
    rw [List.length_set, ← hn]
    exact h3
  · intro t c hc
    rw [List.getElem?_set] at hc
    by_cases ht : i = t
    · rw [if_pos ht, if_pos hi.1, Option.some.injEq] at hc
      subst hc
      refine kc.owns ho (fun q hq e2 => ?_)
      subst e2
      obtain ⟨_, _, x, hx⟩ := ho.kind q hq
      obtain ⟨_, _, y, hy⟩ := h1.kind q rfl
      rw [hx] at hy
      simp at hy
    · rw [if_neg ht] at hc
      refine kc.owns (k.owns (h.d t c hc) (fun q hg hq => pw_at Apt.sy h.ne he hc (fun q => ht q.symm) q hq hg)) (fun q hq e2 => ?_)
      subst e2
      exact h.apart c (List.mem_of_getElem? hc) q hq rfl
  · rcases hb q hq with hq | hq
    · exact pw_at Apt.sy h.ne he hy hj q hq hy2
    · have := (h.lt y (List.mem_of_getElem? hy) q hy2).2
      omega
def CE.wd (c : CE) (d : List Nat) : CE := ⟨c.tk, c.pt, c.ou, d, c.a, c.cap⟩
def CE.wv (c : CE) (d : List Nat) (a : Option Addr) (cap : Nat) : CE := ⟨c.tk, c.pt, c.ou, d, a, cap⟩
/-- a byte of a frame -/
theorem CapsX.byte (h : CapsX w base v E) {i j : Nat} {e : FX} (he : E[i]? = some e) (hj : j < e.1.d.length) : ∃ b, e.1.a = some ⟨b, 0, none⟩ ∧ base ≤ b ∧ w.cell? ⟨b, j, none⟩ = some (.int .u8 ((e.1.d.getD j 0 : Nat) : Int)) ∧ w.frozen? ⟨b, j, none⟩ = false ∧
    ∀ x : Nat, CapsX (w.setCell ⟨b, j, none⟩ (.int .u8 (x : Int))) base v (E.set i (e.1.wd (e.1.d.set j x), e.2)) := by
  have ho := h.d i e he
  rcases ho.2 with ⟨h0, h1⟩ | ⟨b, cap, cur, hv, hb, hh, r⟩
  · omega
  · unfold fxV at hv
    simp only [Value.slice.injEq, true_and] at hv
    have hv2 : fxV e = .slice (some ⟨b, 0, none⟩) (e.1.d.length + e.2.length) e.1.cap := by unfold fxV; rw [hv.1]
    have ho2 := ho
    unfold OwnB at ho2
    rw [hv2] at ho2
    refine ⟨b, hv.1, hb, ?_, World.ownsRow.frozenAt ho2 j, fun x => ?_⟩
    · have h1 := ho2.cells rfl j (.int .u8 ((e.1.d.getD j 0 : Nat) : Int)) (by
        unfold toI
        rw [List.map_append, List.map_append, List.getElem?_append_left (by simpa using hj)]
        simp [List.getD, hj])
      rwa [Addr.add_lit, Nat.zero_add] at h1
    · have hst := (ho2.stored j (.int .u8 (x : Int))).1
      have kc : Ch (fun q => (fxV e).ownBlock = some q) w (w.setCell ⟨b, j, none⟩ (.int .u8 (x : Int))) := (Ch.refl (fun q => (fxV e).ownBlock = some q) w).set ⟨b, j, none⟩ _ (by rw [hv2]; rfl)
      refine h.row he (by simp [fxL, ceL, ceA, CE.wd]) kc ?_ (by unfold fxV CE.wd; simp only; rw [hv.1]; rfl)
      have e1 : fxV (e.1.wd (e.1.d.set j x), e.2) = .slice (some ⟨b, 0, none⟩) (e.1.d.length + e.2.length) e.1.cap := by unfold fxV CE.wd; simp [hv.1]
      have e2 : ((toI (e.1.d ++ e.2)).map (Value.int .u8)).set j (.int .u8 (x : Int)) = (toI (e.1.d.set j x ++ e.2)).map (Value.int .u8) := by
        rw [← List.set_append_left _ _ hj]
        simp [toI, List.map_set]
      unfold OwnB
      rw [e1]
      simp only [CE.wd, List.length_set]
      rw [← e2]
      exact hst
end
end Go.Proofs.Ytpdfepnifjolkaa
