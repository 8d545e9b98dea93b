/-
  HoleAgain: a piece laid into the buffer and put.
-/
import Derived.Test.YtfahfbpobmpccaaWAg0
namespace Go.Proofs.Ytfahfbpobmpccaa
open Go.RowKit Go.Maps
namespace H11
/-- a block is as it was -/
theorem restore {w w' : World} {BF : Nat} {S : Nat → Prop} (hlt : BF < w.heap.size) (c : Ch (fun x => S x ∨ x = BF) w w') : ∃ w0 : World, Ch S w w0 ∧ Ch (fun q => q = BF) w0 w' ∧ Ch (fun q => q = BF) w' w0 := by
  obtain ⟨x, hx⟩ : ∃ x, w.heap[BF]? = some x := ⟨_, Array.getElem?_eq_getElem hlt⟩
  have hsz := c.size
  refine ⟨{ w' with heap := w'.heap.setIfInBounds BF x }, ⟨c.os, c.tape, c.output, by simpa using hsz, ?_⟩, ⟨rfl, rfl, rfl, by simp, ?_⟩, ⟨rfl, rfl, rfl, by simp, ?_⟩⟩
  · intro k hk hS
    by_cases e : k = BF
    · subst e
      show (w'.heap.setIfInBounds k x)[k]? = _
      rw [Array.getElem?_setIfInBounds_self_of_lt (by omega), hx]
    · show (w'.heap.setIfInBounds BF x)[k]? = _
      rw [Array.getElem?_setIfInBounds_ne (fun q => e q.symm)]
      exact c.block k hk (fun q => q.elim hS e)
  · intro k _ e
    show _ = (w'.heap.setIfInBounds BF x)[k]?
    rw [Array.getElem?_setIfInBounds_ne (fun q => e q.symm)]
  · intro k _ e
    show (w'.heap.setIfInBounds BF x)[k]? = _
    rw [Array.getElem?_setIfInBounds_ne (fun q => e q.symm)]
theorem HAg.putL {W : World} {k : Nat} {p : Nat → Ent} {sz ia ib PS BK : Nat} {b : BV} {BF N P7 : Nat} {C7 : Array Value} {l l' : List Nat} {w w' : World} {s' : HS} {e' : Ent} (h : HAg W k p sz ia ib PS BK b BF N P7 C7 l w) (i : Nat) (hi : i < sz) (m1 : EOk w' e') (m2 : e'.H = (p i).H) (m3 : e'.R = (p i).R) (m4 : e'.s = s') (m5 : ∀ x, EB e' x → EB (p i) x ∨ w.heap.size ≤ x) (m6 : Ch (fun x => EB (p i) x ∨ x = BF) w w') (ht : s'.tk.length ≤ k + 1) (hb : BfAt w' BF l') (hl : l'.length = N) : ∃ p', HAg W (k + 1) p' sz ia ib PS BK b BF N P7 C7 l' w' := by
  obtain ⟨w0, c1, c2, c3⟩ := restore h.bf.lt m6
  have hne : ∀ x, EB e' x → ¬ x = BF := by
    intro x hx q
    subst q
    rcases m5 x hx with z | z
    · exact h.fe i hi z
    · have := h.bf.lt; omega
  obtain ⟨p', hp⟩ := h.put i hi ⟨e', m1.ch c3 hne, m2, m3, m4, m5, c1⟩ ht
  exact ⟨p', hp.lay c2 hb hl⟩
structure PP (w3 : World) (e : Ent) (s' : HS) (BF : Nat) (l' : List Nat) (v' : HV) (w : World) : Prop where
  h : HAt w e.H s' v'
  k : ∀ x, HB e.H v' x → HB e.H e.v x ∨ w3.heap.size ≤ x
  r : RAt w e.R e.s e.u
  bf : BfAt w BF l'
  ch : Ch (fun x => EB e x ∨ x = BF) w3 w
theorem stg_put {w3 w w' : World} {e : Ent} {s' : HS} {BF : Nat} {l' : List Nat} (he : EOk w3 e) (hb3 : ¬ EB e BF) (k1 : Ch (fun q => q = BF) w3 w) (hb : BfAt w BF l') (m : Moved w e.H e.v w' s') : ∃ v', PP w3 e s' BF l' v' w' ∧ ∀ F, w3.heap.size ≤ F → F < w.heap.size → ∀ x, HB e.H v' x → x ≠ F := by
  obtain ⟨v', m1, m2, m3⟩ := m
  have hsz := k1.size
  refine ⟨v', ⟨m1, fun x hx => ?_, ?_, hb.ch m3 (fun q => hb3 (.inl q)), (k1.mono (T := fun x => EB e x ∨ x = BF) (fun _ _ q => .inr q)).trans m3 (fun _ _ q => .inl (.inl q))⟩, ?_⟩
  · rcases m2 x hx with z | z
    · exact .inl z
    · exact .inr (by omega)
  · exact (he.r.ch k1 (fun x hx q => hb3 (by have q' : x = BF := q; rw [← q']; exact .inr hx))).ch m3 (fun x hx q => he.dis x q hx)
  · intro F h1 h2 x hx q
    rcases m2 x hx with z | z
    · have := he.h.lt x z; omega
    · omega
theorem PP.below {w3 : World} {e : Ent} {s' : HS} {BF : Nat} {l' : List Nat} {v' : HV} {w w' : World} (h : PP w3 e s' BF l' v' w) (c : Below w.heap.size w w') : PP w3 e s' BF l' v' w' :=
  ⟨h.h.below c, h.k, h.r.below c, h.bf.ch (Ch.ofBelow (S := fun _ => False) c) id, h.ch.trans (Ch.ofBelow (S := fun _ => False) c) (fun _ _ q => q.elim)⟩
def RES4 (w3 : World) (e : Ent) (s' : HS) (BF : Nat) (l' : List Nat) (C : Array Value) (w : World) (F : Nat) : Prop := ∃ v', PP w3 e s' BF l' v' w ∧ FtAt w F C ∧ w3.heap.size ≤ F
theorem PP.fin {w3 : World} {e : Ent} {s' : HS} {BF F : Nat} {l' : List Nat} {v' : HV} {C : Array Value} {w w' : World} (h : PP w3 e s' BF l' v' w) (he : EOk w3 e) (hbl : BF < w3.heap.size) (k : Ch (fun q => q = F) w w') (hF : w3.heap.size ≤ F) (hn : ∀ x, HB e.H v' x → x ≠ F) (hf : FtAt w' F C) : RES4 w3 e s' BF l' C w' F := by
  refine ⟨v', ⟨h.h.ch k (fun x hx q => hn x hx q), h.k, h.r.ch k (fun x hx q => ?_), h.bf.ch k (fun q => ?_), h.ch.trans k (fun x hx q => ?_)⟩, hf, hF⟩
  · have q' : x = F := q
    have := he.r.lt x hx
    omega
  · have q' : BF = F := q
    omega
  · have q' : x = F := q
    omega
end H11
end Go.Proofs.Ytfahfbpobmpccaa
