/-
  Apart of a list of parts that were handed out one after the other.
-/
import Derived.Test.YtfnmidaiabjpbabApart3
namespace Go.Proofs.Ytfnmidaiabjpbab.Ap
open Go.RowKit

def R (a b : Value) : Prop := a.ownBlock = none ∨ a.ownBlock ≠ b.ownBlock
theorem R.symm {a b : Value} (h : R a b) : R b a := by
  rcases h with h | h
  · cases hb : b.ownBlock with
    | none => exact .inl hb
    | some q => exact .inr (by rw [h, hb]; simp)
  · exact .inr (fun e => h e.symm)
/-- parts of the call's own that lie apart -/
structure Fam (w : World) (B : Nat) (ps : List Part) : Prop where
  own : ∀ p ∈ ps, OwnB w B p.val p.l.length p.l ∧ p.l.length ≤ 40
  dis : (ps.map Part.val).Pairwise R
theorem Fam.nil (w : World) (B : Nat) : Fam w B [] := ⟨fun p hp => absurd hp (by simp), List.Pairwise.nil⟩
theorem Fam.old {w w' : World} {B : Nat} {ps : List Part} (h : Fam w B ps) (hb : Below w.heap.size w w') : Fam w' B ps := ⟨fun p hp => ⟨(h.own p hp).1.below hb, (h.own p hp).2⟩, h.dis⟩
theorem Fam.add {w w' : World} {B : Nat} {ps : List Part} (h : Fam w B ps) (hb : Below w.heap.size w w') (hB : B ≤ w.heap.size) (p : Part) (ho : OwnB w' w.heap.size p.val p.l.length p.l) (hl : p.l.length ≤ 40) : Fam w' B (ps ++ [p]) := by
  refine ⟨fun q hq => ?_, ?_⟩
  · rcases List.mem_append.1 hq with hq | hq
    · exact (h.old hb).own q hq
    · simp only [List.mem_singleton] at hq; subst hq; exact ⟨owns_le ho hB, hl⟩
  · rw [List.map_append, List.map_cons, List.map_nil, List.pairwise_append]
    refine ⟨h.dis, List.pairwise_singleton _ _, fun a ha b hb' => ?_⟩
    simp only [List.mem_singleton] at hb'
    subst hb'
    obtain ⟨q, hq, rfl⟩ := List.mem_map.1 ha
    cases hv : q.val.ownBlock with
    | none => exact .inl hv
    | some k =>
      refine .inr (fun e => ?_)
      have h1 := ((h.own q hq).1.lt k hv).2
      rw [hv] at e
      have h2 := (ho.lt k e.symm).1
      omega
theorem Fam.long {w w' : World} {B B' m : Nat} {ps : List Part} {v : Value} {xs : List Value} (h : Fam w B ps) (hv : w.ownsRow B' 24 1 v m xs) (hg : w.grownBy w' v.ownBlock) : Fam w' B ps :=
  ⟨fun p hp => ⟨(h.own p hp).1.kept hg (apart (h.own p hp).1 hv (by decide)), (h.own p hp).2⟩, h.dis⟩
def no : Part := ⟨none, 0, []⟩
theorem tot_le (M : Nat → Nat) (h : ∀ j, M j ≤ 40) (n : Nat) : tot M n ≤ 70 + 40 * n := by
  induction n with
  | zero => simp [tot]
  | succ n ih => have := h n; simp only [tot]; omega
theorem getD_val (ps : List Part) (j : Nat) (h : j < ps.length) : ps.getD j no = ps[j] := by simp [List.getD, h]
theorem fam_apart {w : World} {B B' n c : Nat} {a : Option Addr} {ps : List Part} (h : Fam w B ps) (hv : w.ownsRow B' 24 1 (.slice a n c) n (ps.map Part.val)) (hn : ps.length = n) (h0 : 0 < n) (hm : n ≤ 1000) (hB : B ≤ w.heap.size) :
    Calls Try.prog 23 #[.slice a n c] w fun e w' => e = .returned (.bool true) ∧ Below B w w' := by
  obtain ⟨g, c', e2⟩ : ∃ g c', Value.slice a n c = .slice (some ⟨g, 0, none⟩) n c' := by
    rcases hv.2 with ⟨_, h0'⟩ | ⟨g, cap, cur, h1, _⟩
    · omega
    · exact ⟨g, cap, h1⟩
  simp only [Value.slice.injEq, true_and] at e2
  obtain ⟨rfl, rfl⟩ := e2
  subst hn
  have hvv : ∀ j, j < ps.length → vv (fun j => (ps.getD j no).a) (fun j => (ps.getD j no).cap) (fun j => (ps.getD j no).l.length) j = (ps.getD j no).val := fun j _ => rfl
  have hown : ∀ j, j < ps.length → OwnB w B (ps.getD j no).val (ps.getD j no).l.length (ps.getD j no).l := fun j hj => by
    rw [getD_val ps j hj]; exact (h.own _ (List.getElem_mem hj)).1
  have h40 : ∀ j, (ps.getD j no).l.length ≤ 40 := fun j => by
    by_cases hj : j < ps.length
    · rw [getD_val ps j hj]; exact (h.own _ (List.getElem_mem hj)).2
    · simp [List.getD, hj, no]
  have hg := (hv.lt g rfl).2
  refine apart_any ps.length g 0 c B (fun j => (ps.getD j no).a) (fun j => (ps.getD j no).cap) (fun j => (ps.getD j no).l.length) (fun j => (ps.getD j no).l) w ?_ ?_ ?_ ?_
  · refine ⟨fun i j hi hj hne => ?_, fun j hj => ?_, fun j hj => own_head (hown j hj), fun j hj q hq => (hown j hj).lt q hq, hg, hB⟩
    · show R (ps.getD i no).val (ps.getD j no).val
      rw [getD_val ps i hi, getD_val ps j hj]
      have hp := List.pairwise_iff_getElem.1 h.dis
      rcases Nat.lt_or_ge i j with hlt | hge
      · have := hp i j (by simpa using hi) (by simpa using hj) hlt
        rw [List.getElem_map, List.getElem_map] at this
        exact this
      · have := hp j i (by simpa using hj) (by simpa using hi) (by omega)
        rw [List.getElem_map, List.getElem_map] at this
        exact R.symm this
    · show (ps.getD j no).val.ownBlock ≠ some g
      rcases apart (hown j hj) hv (by decide) with e | e
      · rw [e]; simp
      · exact e
  · refine ⟨fun j hj => ?_, hown, Below.refl _ _⟩
    rw [Nat.zero_add, hv.cellAt j (by omega)]
    show _ = some (ps.getD j no).val
    rw [getD_val ps j hj]
    simp [hj]
  · have := tot_le (fun j => (ps.getD j no).l.length) h40 ps.length
    omega
  · omega
end Go.Proofs.Ytfnmidaiabjpbab.Ap
