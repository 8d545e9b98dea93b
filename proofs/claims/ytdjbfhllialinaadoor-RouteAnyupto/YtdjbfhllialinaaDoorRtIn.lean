/-
  Operations that call nothing: what is shown of them outside a fence holds inside one.
-/
import Derived.RangeFuncNested
import Derived.RangeFuncBound
import Derived.RangeFuncCalls
import Derived.RangeFuncLeaves
import Derived.Shelf.Abstract
import Derived.Shelf.RegionOpen
import Derived.WalkKit
import Derived.OwnWalkIn
import Derived.TacticsInMore
import Derived.LoopNIn
import Derived.LoopIn
import Derived.Test.YtdjbfhllialinaaDoorRtFn3
namespace Go.Proofs.YtdjbfhllialinaaDoor
open Go.RowKit Go.Maps

def good : Result Next → Prop
  | .ok (.value _) _ => True
  | .ok .skip _ => True
  | .halt _ _ => True
  | _ => False
def plainOp : Op → Bool
  | .move _ => true
  | .assign _ => true
  | .alloc _ => true
  | .box _ _ => true
  | .build _ _ => true
  | .load _ _ => true
  | .store _ _ _ => true
  | .fieldAddr _ _ _ => true
  | .lookup _ _ _ _ => true
  | .extract _ _ => true
  | .nilCheck _ => true
  | .binOp _ _ _ _ _ => true
  | .unOp _ _ _ => true
  | _ => false
theorem good_v (s : Sem Value) (P : Program) (w : World) : good ((do pure (Next.value (← s)) : Sem Next).run P w) := by
  simp only [Sem.run_bind]
  cases h : s.run P w with
  | ok v w' => simp [Result.andThen, good]
  | halt k w' => simp [Result.andThen, good]
theorem good_u (s : Sem Unit) (P : Program) (w : World) : good ((do s; pure Next.skip : Sem Next).run P w) := by
  simp only [Sem.run_bind]
  cases h : s.run P w with
  | ok v w' => simp [Result.andThen, good]
  | halt k w' => simp [Result.andThen, good]
theorem good_p (v : Value) (P : Program) (w : World) : good ((pure (Next.value v) : Sem Next).run P w) := by simp [good]
theorem good_bind {α : Type} (s : Sem α) (f : α → Sem Next) (P : Program) (w : World) (h : ∀ a w, good ((f a).run P w)) : good ((s >>= f).run P w) := by
  simp only [Sem.run_bind]
  cases hs : s.run P w with
  | ok v w' => simpa [Result.andThen] using h v w'
  | halt k w' => simp [Result.andThen, good]
theorem plain_good (o : Oper) (ρ : Operand → Value) (P : Program) (w : World) (h : plainOp o.op = true) : good ((execOp ρ o).run P w) := by
  unfold execOp
  cases ho : o.op with
  | move x => exact good_p _ _ _
  | assign x => exact good_p _ _ _
  | alloc t => exact good_v _ _ _
  | box t x => exact good_v _ _ _
  | build t x => exact good_v _ _ _
  | load t x => exact good_v _ _ _
  | store t x y => exact good_u _ _ _
  | fieldAddr t x f => exact good_v _ _ _
  | lookup t x y ok => exact good_v _ _ _
  | extract x i => exact good_v _ _ _
  | binOp b t x y z => exact good_v _ _ _
  | unOp u t x => exact good_v _ _ _
  | nilCheck x =>
    simp only
    split
    · simp [runtimePanic, good]
    · simp [runtimePanic, good]
    · simp [runtimePanic, good]
    · split
      · simp [runtimePanic, good]
      · refine good_bind _ _ _ _ fun a w => ?_
        refine good_bind _ _ _ _ fun b w => ?_
        split
        · refine good_bind _ _ _ _ fun c w => ?_
          exact good_p _ _ _
        · exact good_p _ _ _
      · exact good_p _ _ _
    · exact good_p _ _ _
  | _ => rw [ho] at h; cases h
theorem plain_call {o : Oper} (h : plainOp o.op = true) : (∀ c, o.op ≠ .call c) ∧ ∀ c, o.op ≠ .defer c := ⟨(fun c e => by rw [e] at h; cases h), (fun c e => by rw [e] at h; cases h)⟩
theorem about_plain {F : Fence} {P : Program} {o : Oper} {ρ : Operand → Value} {w : World} (h : plainOp o.op = true) : ∀ f, o.about P w ρ = some f → F.fn f := fun f hf => by
  have hc := (plain_call h).1
  unfold Oper.about at hf
  split at hf
  · rename_i c e; exact absurd e (hc c)
  · cases hf
theorem opIn_of_wp {F : Fence} {n : Nat} {P : Program} {o : Oper} {a : Act} {w : World} {K K' : Act → World → Prop} {Q Q' : Exit → Act → World → Prop} (h : plainOp o.op = true) (hK : ∀ a w, K a w → K' a w) (hQ : ∀ e a w, Q e a w → Q' e a w) (hw : o.wp P a w K Q) : o.wpIn F n P a w K' Q' := by
  have hg := plain_good o a.eval P w h
  unfold Oper.wpIn
  refine ⟨about_plain h, ?_⟩
  rw [Oper.semAt_plain F _ _ (plain_call h).2]
  unfold Oper.wp at hw
  generalize (execOp a.eval o).run P w = r at hg hw
  match r, hg, hw with
  | .ok (.value v) w', _, hw => exact hK _ _ hw
  | .ok .skip w', _, hw => exact hK _ _ hw
  | .halt k w', _, hw =>
    cases k with
    | panic v => exact hQ _ _ _ hw
    | _ => exact hw.elim
theorem only_q {Q : Exit → Act → World → Prop} : ∀ e a w, Mix.only Q e a w → Q e a w := fun e a w h => by obtain ⟨rfl, h⟩ := h; exact h
theorem anyIn_of_any {F : Fence} {n : Nat} {P : Program} {md : Region.Mode} {ops : Array Oper} {Q : Exit → Act → World → Prop} (hp : ∀ (i : Nat) (o : Oper), ops[i]? = some o → plainOp o.op = true) : ∀ fuel listed a w, wpAny P md ops (Mix.only Q) fuel listed a w → wpAnyIn F n P md ops Q fuel listed a w
  | 0, listed, a, w, h => ⟨h.1, only_q _ _ _ h.2⟩
  | fuel + 1, listed, a, w, h => by
    refine ⟨fun hr => only_q _ _ _ (h.1 hr), fun i hi => ?_⟩
    have hi' := h.2 i hi
    unfold wpOp at hi'
    unfold wpOpIn
    cases ho : ops[i]? with
    | none =>
      simp only [ho] at hi'
      exact anyIn_of_any hp fuel _ _ _ hi'
    | some o =>
      simp only [ho] at hi'
      simp only
      have hpl := hp i o ho
      split
      · rename_i hw
        rw [if_pos hw] at hi'
        rcases hi' with hi' | ⟨_, hi'⟩
        · exact opIn_of_wp hpl (fun a w h => anyIn_of_any hp fuel _ _ _ h) only_q hi'
        · exact absurd hi' (Mix.no_out _)
      · rename_i hw
        rw [if_neg hw] at hi'
        exact ⟨about_plain hpl, anyIn_of_any hp fuel _ _ _ hi'⟩
theorem all_plain {l : List Oper} (h : l.all (fun o => plainOp o.op) = true) : ∀ (i : Nat) o, l.toArray[i]? = some o → plainOp o.op = true := fun i o ho => by
  have : l[i]? = some o := by simpa using ho
  exact List.all_eq_true.1 h o (List.mem_of_getElem? this)
/-- a region that draws its order and calls nothing, inside a fence -/
theorem startIn {F : Fence} {n : Nat} {P : Program} {l : List Oper} {Q : Exit → Act → World → Prop} {a : Act} {w : World} {id : Nat} (S : World → Prop) (hm : P.follows .mixedOrders = true) (hp : l.all (fun o => plainOp o.op) = true)
    (h : wpAnyH P .any l.toArray (Mix.only Q) S l.length (Array.replicate l.length false) a w.drew) : (Code.region id l.toArray true).wpIn F n P Q a w := by
  refine wpIn_region_any hm ?_
  have h2 := anyIn_of_any (F := F) (n := n) (all_plain hp) _ _ _ _ (wpAny_of_held _ _ _ _ h)
  simpa using h2
theorem listIn_of_list {F : Fence} {n : Nat} {P : Program} {ops : Array Oper} {Q : Exit → Act → World → Prop} : ∀ (l : List Oper) (a : Act) (w : World), l.all (fun o => plainOp o.op) = true → wpList P ops (Mix.only Q) l a w → wpListIn F n P ops Q l a w
  | [], a, w, _, h => only_q _ _ _ h
  | o :: l, a, w, hp, h => by
    simp only [List.all_cons, Bool.and_eq_true] at hp
    unfold wpList at h
    unfold wpListIn
    split
    · rename_i hw
      rw [if_pos hw] at h
      rcases h with h | ⟨_, h⟩
      · exact opIn_of_wp hp.1 (fun a w h => listIn_of_list l a w hp.2 h) only_q h
      · exact absurd h (Mix.no_out _)
    · rename_i hw
      rw [if_neg hw] at h
      exact ⟨about_plain hp.1, listIn_of_list l _ w hp.2 h⟩
/-- a region that calls nothing, inside a fence -/
theorem regIn {F : Fence} {n : Nat} {P : Program} {l : List Oper} {Q : Exit → Act → World → Prop} {a : Act} {w : World} {id : Nat} (hp : l.all (fun o => plainOp o.op) = true) (h : wpList P l.toArray (Mix.only Q) l a w) : (Code.region id l.toArray false).wpIn F n P Q a w := by
  refine wpIn_region ?_
  rw [List.range_eq_range', ← Array.length_toList, wpOpsIn_eq_wpListIn l.toArray.toList 0 (by simp)]
  exact listIn_of_list _ _ _ hp h
/-- a load inside a fence, as one step -/
theorem stepIn {F : Fence} {n : Nat} {P : Program} {ops : Array Oper} {rest : List Oper} {o : Oper} {a : Act} {w : World} {Q : Exit → Act → World → Prop} (hp : plainOp o.op = true) (hw : Region.wanted o (yielded ops a.tmps) = true)
    (h : ∀ K : Act → World → Prop, (∀ a w, wpListIn F n P ops Q rest a w → K a w) → o.wp P a w K (fun _ _ _ => False)) : wpListIn F n P ops Q (o :: rest) a w := by
  refine wpListIn_step fun K hK => ?_
  rw [if_pos hw]
  exact opIn_of_wp hp (fun _ _ h => h) (fun _ _ _ h => h.elim) (h K hK)
theorem wpListIn_load_ipr {F : Fence} {n : Nat} {ops : Array Oper} {rest : List Oper} {o : Oper} {a : Act} {w : World} {Q : Exit → Act → World → Prop} (x : Operand) (ho : o.op = .load 25 x) (O : Nat) (V : Int) (f : Nat → Nat) (hx : a.eval x = .pointer (some ⟨O, 0, none⟩)) (hb : IprAt w O V f)
    (hw : Region.wanted o (yielded ops a.tmps) = true) (hh : wpListIn F n Tryd.prog ops Q rest (a.put o.dst (.agg (ipCells V f))) w) : wpListIn F n Tryd.prog ops Q (o :: rest) a w :=
  stepIn (by rw [ho]; rfl) hw fun K hK => wp_load_row 25 x ho O hx _ _ _ _ hb Tryd.underlying25 rfl Tryd.size_ipr (hK _ _ hh)
theorem wpListIn_alloc_ipr {F : Fence} {n : Nat} {ops : Array Oper} {rest : List Oper} {o : Oper} {a : Act} {w : World} {Q : Exit → Act → World → Prop} (ho : o.op = .alloc 25) (hw : Region.wanted o (yielded ops a.tmps) = true)
    (h : wpListIn F n Tryd.prog ops Q rest (a.put o.dst (.pointer (some ⟨w.heap.size, 0, none⟩))) (w.alloc (.cells (ipCells 0 (fun _ => 0)) 25))) : wpListIn F n Tryd.prog ops Q (o :: rest) a w :=
  stepIn (by rw [ho]; rfl) hw fun K hK => by
    have hrun : (execOp a.eval o).run Tryd.prog w = .ok (.value (.pointer (some ⟨w.heap.size, 0, none⟩))) (w.alloc (.cells (ipCells 0 (fun _ => 0)) 25)) := by
      obtain ⟨dst, op, type, pos, after, guard⟩ := o
      simp only at ho
      subst ho
      simp only [execOp]
      go_simp
      rfl
    unfold Oper.wp
    rw [hrun]
    exact hK _ _ h
theorem wpListIn_store_ipr {F : Fence} {n : Nat} {ops : Array Oper} {rest : List Oper} {o : Oper} {a : Act} {w : World} {Q : Exit → Act → World → Prop} (x y : Operand) (ho : o.op = .store 25 x y) (hd : o.dst = none) (O : Nat) (V : Int) (f : Nat → Nat) (V' : Int) (f' : Nat → Nat) (hx : a.eval x = .pointer (some ⟨O, 0, none⟩)) (hy : a.eval y = .agg (ipCells V' f')) (hb : IprAt w O V f)
    (hw : Region.wanted o (yielded ops a.tmps) = true) (hh : ∀ w', IprAt w' O V' f' → Ch (fun q => q = O) w w' → wpListIn F n Tryd.prog ops Q rest a w') : wpListIn F n Tryd.prog ops Q (o :: rest) a w :=
  stepIn (by rw [ho]; rfl) hw fun K hK => by
    refine wp_store_row 25 x y ho O (ipCells V' f') hx hy _ (ipCells V f) hb Tryd.size_ipr rfl (by simp [ipCells, Value.oneCell']) (hK _ _ ?_)
    rw [hd]
    refine hh _ (setRow_heap w O _ _ _ _ hb) ⟨rfl, rfl, rfl, ?_, ?_⟩
    · simp [World.setRow]
    · intro k hk hne
      simp only [World.setRow]
      rw [Array.getElem?_modify, if_neg (fun e => hne e.symm)]
end Go.Proofs.YtdjbfhllialinaaDoor
