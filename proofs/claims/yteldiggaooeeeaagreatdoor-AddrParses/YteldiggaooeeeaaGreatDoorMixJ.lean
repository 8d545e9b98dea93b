/-
  A region that draws its order, with loads of cells that its last store writes: the condition on the world is asked for only until that store has come up.
-/
import Derived.Test.YteldiggaooeeeaaGreatDoorMixH
namespace Go.Proofs.YteldiggaooeeeaaGreatDoor.MixJ
open Go.Proofs.YteldiggaooeeeaaGreatDoor.Mix

section
variable {P : Program} {ops : Array Oper} {Q : Exit → Act → World → Prop} {S : World → Prop} {j0 : Nat}

/-- whatever comes up, the condition holds behind it as long as number j0 has not come up -/
def wpJ (P : Program) (ops : Array Oper) (Q : Exit → Act → World → Prop) (S : World → Prop) (j0 : Nat) : Nat → Array Bool → Act → World → Prop
  | 0, listed, a, w => Region.ready .any ops listed = [] ∧ Q .normal a w
  | fuel + 1, listed, a, w =>
    (Region.ready .any ops listed = [] → Q .normal a w) ∧
    ∀ i ∈ Region.ready .any ops listed, wpOp P ops Q i (fun a' w' => (i ≠ j0 → S w') ∧ wpJ P ops Q S j0 fuel (listed.setIfInBounds i true) a' w') a w
theorem toAny : ∀ (fuel : Nat) (listed : Array Bool) (a : Act) (w : World), wpJ P ops Q S j0 fuel listed a w → wpAny P .any ops Q fuel listed a w
  | 0, _, _, _, h => h
  | fuel + 1, _, _, _, h => ⟨h.1, fun i hi => wpOp_mono (fun a' w' h' => toAny fuel _ a' w' h'.2) (h.2 i hi)⟩

/-- one that yields, and that j0 waits for, goes first -/
theorem first {i : Nat} {oi : Oper} {v : Value} (hi : ops[i]? = some oi) (hsel : ∀ (j : Nat) (o : Oper) cs b, ops[j]? = some o → o.op ≠ .select cs b)
    (hQ : ∀ c a w, Q (.panic c) (a.put oi.dst v) w → Q (.panic c) a w) (_ : i ≠ j0) (hwait : ∀ o0, ops[j0]? = some o0 → ∃ e ∈ o0.after, Region.binds .any e = true ∧ e.on = i) :
    ∀ (fuel : Nat) (listed : Array Bool) (a : Act) (w : World),
      (∀ j oj, ops[j]? = some oj → j ≠ i → listed.getD j true = false → (∀ e ∈ oj.after, Region.binds .any e = true → e.on ≠ i) → oi.apart ops oj = true) →
      i ∈ Region.ready .any ops listed → YieldsIf P ops S oi v a → S w →
      wpJ P ops Q S j0 fuel (listed.setIfInBounds i true) (a.put oi.dst v) w → wpJ P ops Q S j0 (fuel + 1) listed a w := by
  intro fuel
  induction fuel with
  | zero =>
    intro listed a w _ hr hy hS H
    refine ⟨fun h => (by rw [h] at hr; cases hr), fun j hj => ?_⟩
    by_cases hji : j = i
    · rw [hji]; exact hy.wpOp hi hS ⟨fun _ => hS, H⟩
    · have := ready_mono hj hji
      rw [H.1] at this
      cases this
  | succ fuel ih =>
    intro listed a w hfree hr hy hS H
    refine ⟨fun h => (by rw [h] at hr; cases hr), fun j hj => ?_⟩
    by_cases hji : j = i
    · rw [hji]; exact hy.wpOp hi hS ⟨fun _ => hS, H⟩
    · have h1 := H.2 j (ready_mono hj hji)
      obtain ⟨hjun, oj, hoj, hall⟩ := mem_ready.1 hj
      have hnot : ∀ e ∈ oj.after, Region.binds .any e = true → e.on ≠ i := fun e he hb heq => by
        have h1 := hall e he hb
        have h0 := (mem_ready.1 hr).1
        rw [heq] at h1
        rcases Nat.lt_or_ge i listed.size with h' | h'
        · simp [h'] at h0 h1; rw [h0] at h1; cases h1
        · simp [Array.getElem?_eq_none h'] at h1
      have hj0 : j ≠ j0 := by
        intro e
        obtain ⟨e1, he1, hb1, ho1⟩ := hwait oj (by rw [← e]; exact hoj)
        exact hnot e1 he1 hb1 ho1
      have h2 := wpOp_putIf hoj (hfree j oj hoj hji hjun hnot) (fun cs b => hsel i oi cs b hi) (fun cs b => hsel j oj cs b hoj) hQ hy h1
      have hfree' : ∀ k ok, ops[k]? = some ok → k ≠ i → (listed.setIfInBounds j true).getD k true = false →
          (∀ e ∈ ok.after, Region.binds .any e = true → e.on ≠ i) → oi.apart ops ok = true := fun k ok hk hki hun hno => by
        refine hfree k ok hk hki ?_ hno
        by_cases hjk : j = k
        · rw [← hjk]; exact hjun
        · rw [getD_set_ne true hjk] at hun; exact hun
      refine wpOp_mono (fun a' w' h3 => ⟨h3.2.1, ih (listed.setIfInBounds j true) a' w' hfree' (ready_mono hr (Ne.symm hji)) h3.1 (h3.2.1 hj0) ?_⟩) h2
      rw [Array.setIfInBounds_comm _ _ hji]
      exact h3.2.2
end

def waitsB (l : List Oper) (j0 i : Nat) : Bool := match l[j0]? with | some o0 => o0.after.any (fun e => Region.binds .any e && e.on == i) | none => true
theorem waits {l : List Oper} {j0 i : Nat} (h : waitsB l j0 i = true) : ∀ o0, l.toArray[j0]? = some o0 → ∃ e ∈ o0.after, Region.binds .any e = true ∧ e.on = i := by
  intro o0 ho
  unfold waitsB at h
  have ho' : l[j0]? = some o0 := by simpa using ho
  rw [ho'] at h
  simp only [Array.any_eq_true', Bool.and_eq_true, beq_iff_eq] at h
  obtain ⟨e, he, h1, h2⟩ := h
  exact ⟨e, he, h1, h2⟩
theorem start {P : Program} {l : List Oper} {Q : Exit → Act → World → Prop} {a : Act} {w : World} {id : Nat} (S : World → Prop) (j0 : Nat) (hm : P.follows .mixedOrders = true)
    (h : wpJ P l.toArray (only Q) S j0 l.length (Array.replicate l.length false) a w.drew) : (Code.region id l.toArray true).wp P Q a w :=
  Mix.start hm (toAny _ _ _ _ h)
theorem take {P : Program} {l : List Oper} {Q : Exit → Act → World → Prop} {S : World → Prop} {j0 F : Nat} {listed : Array Bool} {a : Act} {w : World} (fuel i : Nat) (o : Oper) (v : Value) (hi : l[i]? = some o) (hs : Region.noSelect l.toArray = true) (hf : Region.free .any l.toArray listed i = true) (hr : (Region.ready .any l.toArray listed).contains i = true) (hF : F = fuel + 1) (h0 : (i != j0) = true) (hw : waitsB l j0 i = true)
    (hy : YieldsIf P l.toArray S o v a) (hS : S w) (h : ∀ a', a' = a.put o.dst v → wpJ P l.toArray (only Q) S j0 fuel (listed.setIfInBounds i true) a' w) : wpJ P l.toArray (only Q) S j0 F listed a w := by
  subst hF
  exact first (by simpa using hi) (Region.noSelect_spec hs) (fun c a w h => only_panic h) (bne_iff_ne.1 h0) (waits hw) fuel listed a w (Region.free_spec (by simpa using hi) hf) (by simpa using hr) hy hS (h _ rfl)
def batchJ (l : List Oper) (j0 : Nat) (is : List Nat) : Bool := is.all (fun i => i != j0 && waitsB l j0 i)
theorem batch {P : Program} {l : List Oper} {Q : Exit → Act → World → Prop} {S : World → Prop} {j0 : Nat} (hs : Region.noSelect l.toArray = true) : ∀ (is : List Nat) (os : List Oper) (fuel : Nat) (listed : Array Bool) (a : Act) (w : World), S w →
    is.map (fun i => l.toArray[i]?) = os.map some → batchB l.toArray is listed = true → batchJ l j0 is = true → wpQuiet P l.toArray (fun _ => True) (fun a' => wpJ P l.toArray (only Q) S j0 fuel (Mix.mark is listed) a' w) os a → wpJ P l.toArray (only Q) S j0 (fuel + is.length) listed a w
  | [], [], fuel, listed, a, w, _, _, _, _, h => h
  | [], o :: os, _, _, _, _, _, he, _, _, _ => by simp at he
  | i :: is, [], _, _, _, _, _, he, _, _, _ => by simp at he
  | i :: is, o :: os, fuel, listed, a, w, hS, he, hb, hj, h => by
    simp only [List.map_cons, List.cons.injEq] at he
    obtain ⟨hi, he⟩ := he
    simp only [batchB, hi, Option.map_some, Option.getD_some, Bool.and_eq_true] at hb
    obtain ⟨⟨⟨hk, hf⟩, hr⟩, hb⟩ := hb
    simp only [batchJ, List.all_cons, Bool.and_eq_true] at hj
    obtain ⟨⟨hj1, hj2⟩, hj3⟩ := hj
    have hfst := fun (v : Value) (hy : YieldsIf P l.toArray S o v a) (H : wpJ P l.toArray (only Q) S j0 (fuel + is.length) (listed.setIfInBounds i true) (a.put o.dst v) w) => first (Q := only Q) hi (Region.noSelect_spec hs) (fun c a w h => only_panic h) (bne_iff_ne.1 hj1) (waits hj2) (fuel + is.length) listed a w (Region.free_spec hi hf) (by simpa using hr) hy hS H
    simp only [wpQuiet] at h
    by_cases hw : Region.wanted o (yielded l.toArray a.tmps) = true
    · rw [if_pos hw] at h
      obtain ⟨v, hv, hn⟩ := h
      exact hfst v (yields_of hk hw hv).yieldsIf (batch hs is os fuel _ _ w hS he hb (by unfold batchJ; exact hj3) hn)
    · rw [if_neg hw] at h
      exact hfst undef (.inr ⟨by simpa using hw, rfl⟩) (batch hs is os fuel _ _ w hS he hb (by unfold batchJ; exact hj3) h)
theorem takes {P : Program} {l : List Oper} {Q : Exit → Act → World → Prop} {S : World → Prop} {j0 F : Nat} {listed : Array Bool} {a : Act} {w : World} (fs : List Bool) (fuel : Nat) (hs : Region.noSelect l.toArray = true) (hF : F = fuel + (idx fs 0).length) (hl : fs.length ≤ l.length) (hb : batchB l.toArray (idx fs 0) listed = true) (hj : batchJ l j0 (idx fs 0) = true) (hS : S w)
    (h : ∀ K : Act → Prop, (∀ a', wpJ P l.toArray (only Q) S j0 fuel (Mix.mark (idx fs 0) listed) a' w → K a') → wpQuiet P l.toArray (fun _ => True) K (pick fs l) a) : wpJ P l.toArray (only Q) S j0 F listed a w := by
  rw [hF]
  exact batch hs (idx fs 0) (pick fs l) fuel listed a w hS (idx_pick _ fs l 0 (by simp) hl) hb hj (h _ (fun _ h => h))
/-- whichever of those that may come up -/
theorem many {P : Program} {l : List Oper} {Q : Exit → Act → World → Prop} {S : World → Prop} {j0 F : Nat} {listed : Array Bool} {a : Act} {w : World} (is : List Nat) (fuel : Nat) (hr : Region.ready .any l.toArray listed = is) (hne : is ≠ []) (hF : F = fuel + 1)
    (h : ∀ i, i ∈ is → ∃ o, l[i]? = some o ∧ ∀ K : Act → World → Prop, (∀ a' w', (i ≠ j0 → S w') → wpJ P l.toArray (only Q) S j0 fuel (listed.setIfInBounds i true) a' w' → K a' w') → wpList P l.toArray (only fun _ => K) [o] a w) : wpJ P l.toArray (only Q) S j0 F listed a w := by
  subst hF
  refine ⟨fun h0 => absurd (hr ▸ h0) hne, fun m hm => ?_⟩
  rw [hr] at hm
  obtain ⟨o, hi, h1⟩ := h m hm
  have h0 := h1 _ (fun _ _ hs h => (⟨hs, h⟩ : _ ∧ _))
  have hi' : l.toArray[m]? = some o := by simpa using hi
  unfold wpOp
  simp only [hi']
  unfold wpList at h0
  split
  · rename_i hw
    rw [if_pos hw] at h0
    rcases h0 with h0 | ⟨_, h0⟩
    · exact .inl (wp_only (fun a w h => h.2) h0)
    · exact absurd h0 (no_out _)
  · rename_i hw
    rw [if_neg hw] at h0
    exact h0.2
theorem done {P : Program} {l : List Oper} {Q : Exit → Act → World → Prop} {S : World → Prop} {j0 : Nat} {listed : Array Bool} {a : Act} {w : World} {fuel : Nat} (hr : Region.ready .any l.toArray listed = []) (h : Q .normal a w) : wpJ P l.toArray (only Q) S j0 fuel listed a w := by
  cases fuel with
  | zero => exact ⟨hr, rfl, h⟩
  | succ f => exact ⟨fun _ => ⟨rfl, h⟩, by rw [hr]; simp⟩
end Go.Proofs.YteldiggaooeeeaaGreatDoor.MixJ
