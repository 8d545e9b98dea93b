/-
  A region that draws its order and holds loads beside calls: under one condition on the world, which is shown anew behind each operation that is carried out, the loads are taken first.
-/
import Derived.Test.YteldiggaooeeeaaGreatDoorMix
import Derived.OrdersHeld
namespace Go.Proofs.YteldiggaooeeeaaGreatDoor.MixH
open Go.Proofs.YteldiggaooeeeaaGreatDoor.Mix

theorem start {P : Program} {l : List Oper} {Q : Exit → Act → World → Prop} {a : Act} {w : World} {id : Nat} (S : World → Prop) (hm : P.follows .mixedOrders = true)
    (h : wpAnyH P .any l.toArray (only Q) S l.length (Array.replicate l.length false) a w.drew) : (Code.region id l.toArray true).wp P Q a w :=
  Mix.start hm (wpAny_of_held _ _ _ _ h)
/-- one that yields in every world that meets S is taken -/
theorem take {P : Program} {l : List Oper} {Q : Exit → Act → World → Prop} {S : World → Prop} {F : Nat} {listed : Array Bool} {a : Act} {w : World} (fuel i : Nat) (o : Oper) (v : Value) (hi : l[i]? = some o) (hs : Region.noSelect l.toArray = true) (hf : Region.free .any l.toArray listed i = true) (hr : (Region.ready .any l.toArray listed).contains i = true) (hF : F = fuel + 1)
    (hy : YieldsIf P l.toArray S o v a) (hS : S w) (h : ∀ a', a' = a.put o.dst v → wpAnyH P .any l.toArray (only Q) S fuel (listed.setIfInBounds i true) a' w) : wpAnyH P .any l.toArray (only Q) S F listed a w := by
  subst hF
  exact wpAnyH_take (by simpa using hi) hs hf hr (fun c a w h => only_panic h) hy hS (h _ rfl)
/-- a batch of quiet operations -/
theorem batch {P : Program} {ops : Array Oper} {Q : Exit → Act → World → Prop} {S : World → Prop} (hs : Region.noSelect ops = true) : ∀ (is : List Nat) (os : List Oper) (fuel : Nat) (listed : Array Bool) (a : Act) (w : World), S w →
    is.map (fun i => ops[i]?) = os.map some → batchB ops is listed = true → wpQuiet P ops (fun _ => True) (fun a' => wpAnyH P .any ops (only Q) S fuel (Mix.mark is listed) a' w) os a → wpAnyH P .any ops (only Q) S (fuel + is.length) listed a w
  | [], [], fuel, listed, a, w, _, _, _, h => h
  | [], o :: os, _, _, _, _, _, he, _, _ => by simp at he
  | i :: is, [], _, _, _, _, _, he, _, _ => by simp at he
  | i :: is, o :: os, fuel, listed, a, w, hS, he, hb, h => by
    simp only [List.map_cons, List.cons.injEq] at he
    obtain ⟨hi, he⟩ := he
    simp only [batchB, hi, Option.map_some, Option.getD_some, Bool.and_eq_true] at hb
    obtain ⟨⟨⟨hk, hf⟩, hr⟩, hb⟩ := hb
    simp only [wpQuiet] at h
    by_cases hw : Region.wanted o (yielded ops a.tmps) = true
    · rw [if_pos hw] at h
      obtain ⟨v, hv, hn⟩ := h
      exact wpAnyH_take hi hs hf hr (fun c a w h => only_panic h) (yields_of hk hw hv).yieldsIf hS (batch hs is os fuel _ _ w hS he hb hn)
    · rw [if_neg hw] at h
      exact wpAnyH_take hi hs hf hr (fun c a w h => only_panic h) (.inr ⟨by simpa using hw, rfl⟩) hS (batch hs is os fuel _ _ w hS he hb h)
theorem takes {P : Program} {l : List Oper} {Q : Exit → Act → World → Prop} {S : World → Prop} {F : Nat} {listed : Array Bool} {a : Act} {w : World} (fs : List Bool) (fuel : Nat) (hs : Region.noSelect l.toArray = true) (hF : F = fuel + (idx fs 0).length) (hl : fs.length ≤ l.length) (hb : batchB l.toArray (idx fs 0) listed = true) (hS : S w)
    (h : ∀ K : Act → Prop, (∀ a', wpAnyH P .any l.toArray (only Q) S fuel (Mix.mark (idx fs 0) listed) a' w → K a') → wpQuiet P l.toArray (fun _ => True) K (pick fs l) a) : wpAnyH P .any l.toArray (only Q) S F listed a w := by
  rw [hF]
  exact batch hs (idx fs 0) (pick fs l) fuel listed a w hS (idx_pick _ fs l 0 (by simp) hl) hb (h _ (fun _ h => h))
/-- one that alone may come up -/
theorem one {P : Program} {l : List Oper} {Q : Exit → Act → World → Prop} {S : World → Prop} {F : Nat} {listed : Array Bool} {a : Act} {w : World} (fs : List Bool) (fuel : Nat) (i : Nat) (o : Oper) (ho : pick fs l = [o]) (hi : l[i]? = some o) (hr : Region.ready .any l.toArray listed = [i]) (hF : F = fuel + 1)
    (h : ∀ K : Act → World → Prop, (∀ a' w', S w' → wpAnyH P .any l.toArray (only Q) S fuel (listed.setIfInBounds i true) a' w' → K a' w') → wpList P l.toArray (only fun _ => K) (pick fs l) a w) : wpAnyH P .any l.toArray (only Q) S F listed a w := by
  subst hF
  have h1 := h _ (fun _ _ hs h => (⟨hs, h⟩ : _ ∧ _))
  rw [ho] at h1
  refine wpAnyH_all hr (by simp) fun j hj => ?_
  simp only [List.mem_singleton] at hj
  subst hj
  have hi' : l.toArray[j]? = some o := by simpa using hi
  unfold wpOp
  simp only [hi']
  unfold wpList at h1
  split
  · rename_i hw
    rw [if_pos hw] at h1
    rcases h1 with h1 | ⟨_, h1⟩
    · exact .inl (wp_only (fun a w h => h.2) h1)
    · exact absurd h1 (no_out _)
  · rename_i hw
    rw [if_neg hw] at h1
    exact h1.2
theorem done {P : Program} {l : List Oper} {Q : Exit → Act → World → Prop} {S : World → Prop} {listed : Array Bool} {a : Act} {w : World} {fuel : Nat} (hr : Region.ready .any l.toArray listed = []) (h : Q .normal a w) : wpAnyH P .any l.toArray (only Q) S fuel listed a w :=
  wpAnyH_done hr ⟨rfl, h⟩ fuel
end Go.Proofs.YteldiggaooeeeaaGreatDoor.MixH
