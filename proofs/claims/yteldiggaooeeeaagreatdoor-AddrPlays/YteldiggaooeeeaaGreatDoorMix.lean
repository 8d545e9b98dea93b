/-
  A region that draws its order and makes memory: its quiet operations are taken in a batch, whatever order is drawn; the others as they may come up.
-/
import Derived.Test.YteldiggaooeeeaaGreatDoorProg
import Derived.WalkKit
import Derived.BigQuiet
namespace Go.Proofs.YteldiggaooeeeaaGreatDoor.Mix

/-- the end of a region that ends without a panic -/
def only (Q : Exit → Act → World → Prop) : Exit → Act → World → Prop := fun e a w => e = .normal ∧ Q .normal a w
theorem only_panic {Q : Exit → Act → World → Prop} {c : List PanicEntry} {a a' : Act} {w : World} (h : only Q (.panic c) a w) : only Q (.panic c) a' w := by cases h.1

theorem region_only {P : Program} {ops : Array Oper} {Q : Exit → Act → World → Prop} {a : Act} {w : World} {id : Nat} (hm : P.follows .mixedOrders = true)
    (h : wpAny P .any ops (only Q) ops.size (Array.replicate ops.size false) a w.drew) : (Code.region id ops true).wp P Q a w :=
  Code.wp_mono (fun e a w h => by obtain ⟨rfl, h⟩ := h; exact h) (wp_region_any (Q := only Q) hm h)

/-- operations that hand back a value, whatever else -/
def kind (o : Op) : Bool :=
  match o with
  | .move _ => true
  | .assign _ => true
  | .pick _ _ _ => true
  | .binOp _ _ _ _ _ => true
  | .unOp _ _ _ => true
  | .convert _ _ _ => true
  | .slice _ _ _ _ _ => true
  | .extract _ _ => true
  | .indexAddr _ _ _ => true
  | .build _ _ => true
  | .fieldAddr _ _ _ => true
  | .nilCheck _ => true
  | .field _ _ _ => true
  | .index _ _ _ => true
  | .call c => match c.callee with | .builtin .len => true | _ => false
  | _ => false
theorem then_value {s : Result Value} {n : Next} {w' : World} (h : (s.andThen fun a w => .ok (Next.value a) w) = .ok n w') : ∃ v, n = .value v := by
  cases s with
  | ok a w => simp only [Result.andThen, Result.ok.injEq] at h; exact ⟨a, h.1.symm⟩
  | halt x w => simp [Result.andThen] at h
theorem value_of {P : Program} {o : Oper} (hk : kind o.op = true) {ρ : Operand → Value} {w w' : World} {n : Next} (h : (execOp ρ o).run P w = .ok n w') : ∃ v, n = .value v := by
  obtain ⟨dst, op, type, pos, after, guard⟩ := o
  cases op <;> simp only [kind, Bool.false_eq_true] at hk
  case move x => simp [execOp] at h; exact ⟨_, h.1.symm⟩
  case assign x => simp [execOp] at h; exact ⟨_, h.1.symm⟩
  case nilCheck x =>
    simp only [execOp] at h
    (repeat' split at h) <;> first
      | (simp only [Sem.run_pure, Result.ok.injEq] at h; exact ⟨_, h.1.symm⟩)
      | (exfalso; simp [runtimePanic] at h; done)
      | skip
    all_goals
      rename_i t w0 _
      simp only [Sem.run_bind] at h
      generalize hA : Sem.run P program w = A at h
      cases A with
      | halt y w1 => simp [Result.andThen] at h
      | ok p w1 =>
        simp only [Result.andThen] at h
        generalize hB : Sem.run P (nilAhead (p.types.size + Made.depth) t w0 _) w1 = C at h
        cases C with
        | halt y w2 => simp at h
        | ok b w2 =>
          simp only at h
          split at h
          · simp only [Sem.run_bind] at h
            generalize hD : Sem.run P (unsupported _) w2 = D at h
            cases D with
            | halt y w3 => simp [Result.andThen] at h
            | ok u w3 => simp only [Result.andThen, Sem.run_pure, Result.ok.injEq] at h; exact ⟨_, h.1.symm⟩
          · simp only [Sem.run_pure, Result.ok.injEq] at h; exact ⟨_, h.1.symm⟩
  case pick c a b =>
    simp only [execOp, Sem.run_bind, Sem.run_pure] at h
    cases hs : (asBool (ρ c)).run P w with
    | ok b w1 => rw [hs] at h; simp only [Result.andThen, Result.ok.injEq] at h; exact ⟨_, h.1.symm⟩
    | halt x w1 => rw [hs] at h; simp [Result.andThen] at h
  case call c =>
    obtain ⟨callee, args, argTypes⟩ := c
    cases callee with
    | builtin b =>
      cases b <;> simp only [Bool.false_eq_true] at hk
      simp only [execOp, resolve, invoke, builtin, Sem.run_bind, Sem.run_pure, Result.andThen] at h
      split at h
      · simp only [Result.ok.injEq] at h; exact ⟨_, h.1.symm⟩
      · cases h
    | value f => simp at hk
    | invoke r m => simp at hk
  all_goals
    simp only [execOp, Sem.run_bind, Sem.run_pure] at h
    exact then_value h

/-- taken first: what it hands back in every world -/
theorem yields_of {P : Program} {ops : Array Oper} {o : Oper} {a : Act} {v : Value} (hk : kind o.op = true) (hw : Region.wanted o (yielded ops a.tmps) = true) (h : ∀ w, True → o.quietAt P a (fun _ => True) w v) : Yields P ops o v a := by
  refine .inl ⟨hw, fun w => ?_⟩
  have h1 := h w trivial
  unfold Oper.quietAt at h1
  cases hr : (execOp a.eval o).run P w with
  | ok n w' =>
    obtain ⟨u, rfl⟩ := value_of hk hr
    rw [hr] at h1
    simp only [Oper.quietUpon] at h1
    rw [h1.1, h1.2]
  | halt x w' => rw [hr] at h1; simp only [Oper.quietUpon] at h1

/-- the operations of a batch may be taken one behind the other -/
def batchB (ops : Array Oper) : List Nat → Array Bool → Bool
  | [], _ => true
  | i :: is, listed => ((ops[i]?).map (fun o => kind o.op)).getD false && Region.free .any ops listed i && (Region.ready .any ops listed).contains i && batchB ops is (listed.setIfInBounds i true)
def mark : List Nat → Array Bool → Array Bool
  | [], l => l
  | i :: is, l => mark is (l.setIfInBounds i true)
theorem batch {P : Program} {ops : Array Oper} {Q : Exit → Act → World → Prop} (hs : Region.noSelect ops = true) : ∀ (is : List Nat) (os : List Oper) (fuel : Nat) (listed : Array Bool) (a : Act) (w : World),
    is.map (fun i => ops[i]?) = os.map some → batchB ops is listed = true → wpQuiet P ops (fun _ => True) (fun a' => wpAny P .any ops (only Q) fuel (mark is listed) a' w) os a → wpAny P .any ops (only Q) (fuel + is.length) listed a w
  | [], [], fuel, listed, a, w, _, _, h => h
  | [], o :: os, _, _, _, _, he, _, _ => by simp at he
  | i :: is, [], _, _, _, _, he, _, _ => by simp at he
  | i :: is, o :: os, fuel, listed, a, w, he, hb, h => by
    simp only [List.map_cons, List.cons.injEq] at he
    obtain ⟨hi, he⟩ := he
    simp only [batchB, hi, Option.map_some, Option.getD_some, Bool.and_eq_true] at hb
    obtain ⟨⟨⟨hk, hf⟩, hr⟩, hb⟩ := hb
    simp only [wpQuiet] at h
    by_cases hw : Region.wanted o (yielded ops a.tmps) = true
    · rw [if_pos hw] at h
      obtain ⟨v, hv, hn⟩ := h
      exact wpAny_take hi hs hf hr (fun c a w h => only_panic h) (yields_of hk hw hv) (batch hs is os fuel _ _ w he hb hn)
    · rw [if_neg hw] at h
      exact wpAny_take hi hs hf hr (fun c a w h => only_panic h) (.inr ⟨by simpa using hw, rfl⟩) (batch hs is os fuel _ _ w he hb h)

theorem no_out (Q : Exit → Act → World → Prop) : ¬ LetsOut (only Q) := by rintro ⟨a, w, h, _⟩; cases h
theorem wp_only {P : Program} {o : Oper} {a : Act} {w : World} {K K' : Act → World → Prop} {Q Q' : Exit → Act → World → Prop} (hK : ∀ a w, K a w → K' a w) (h : o.wp P a w K (only Q)) : o.wp P a w K' (only Q') := by
  unfold Oper.wp at *
  generalize (execOp a.eval o).run P w = r at *
  cases r with
  | ok n w' =>
    cases n <;> simp only [Oper.upon] at h ⊢
    case value v => exact hK _ _ h
    case skip => exact hK _ _ h
    case defer d => exact hK _ _ h
    case enter f args =>
      refine Calls.mono h fun e w'' he => ?_
      cases e with
      | returned v => exact hK _ _ he
      | panicked c => cases he.1
      | outgrown => exact absurd he (no_out Q)
    case row r args => exact Rows.mono h fun v w'' he => hK _ _ he
  | halt x w' =>
    cases x <;> simp only [Oper.upon] at h ⊢
    case panic v => cases h.1
/-- one operation that alone may come up -/
theorem heavy {P : Program} {ops : Array Oper} {Q : Exit → Act → World → Prop} {i : Nat} {o : Oper} {fuel : Nat} {listed : Array Bool} {a : Act} {w : World} (hi : ops[i]? = some o) (hr : Region.ready .any ops listed = [i])
    (h : wpList P ops (only fun _ a w => wpAny P .any ops (only Q) fuel (listed.setIfInBounds i true) a w) [o] a w) : wpAny P .any ops (only Q) (fuel + 1) listed a w := by
  refine wpAny_all hr (by simp) fun j hj => ?_
  simp only [List.mem_singleton] at hj
  subst hj
  unfold wpOp
  simp only [hi]
  unfold wpList at h
  split
  · rename_i hw
    rw [if_pos hw] at h
    rcases h with h | ⟨_, h⟩
    · exact .inl (wp_only (fun a w h => h.2) h)
    · exact absurd h (no_out _)
  · rename_i hw
    rw [if_neg hw] at h
    exact h.2
theorem done {P : Program} {ops : Array Oper} {Q : Exit → Act → World → Prop} {listed : Array Bool} {a : Act} {w : World} {fuel : Nat} (hr : Region.ready .any ops listed = []) (h : Q .normal a w) : wpAny P .any ops (only Q) fuel listed a w :=
  wpAny_done hr ⟨rfl, h⟩ fuel

/-- the operations that are marked -/
def pick : List Bool → List Oper → List Oper
  | true :: fs, o :: l => o :: pick fs l
  | false :: fs, _ :: l => pick fs l
  | _, _ => []
def idx : List Bool → Nat → List Nat
  | true :: fs, k => k :: idx fs (k + 1)
  | false :: fs, k => idx fs (k + 1)
  | [], _ => []
theorem idx_pick (ops : Array Oper) : ∀ (fs : List Bool) (l : List Oper) (k : Nat), (∀ j, l[j]? = ops[k + j]?) → fs.length ≤ l.length → (idx fs k).map (fun i => ops[i]?) = (pick fs l).map some
  | [], l, k, _, _ => by cases l <;> rfl
  | f :: fs, [], k, _, hl => by simp at hl
  | f :: fs, o :: l, k, h, hl => by
    have h0 : ops[k]? = some o := by simpa using (h 0).symm
    have ih := idx_pick ops fs l (k + 1) (fun j => by have := h (j + 1); simpa [Nat.add_assoc, Nat.add_comm 1 j] using this) (by simpa using hl)
    cases f
    · exact ih
    · simp only [idx, pick, List.map_cons, h0, ih]
theorem start {P : Program} {l : List Oper} {Q : Exit → Act → World → Prop} {a : Act} {w : World} {id : Nat} (hm : P.follows .mixedOrders = true)
    (h : wpAny P .any l.toArray (only Q) l.length (Array.replicate l.length false) a w.drew) : (Code.region id l.toArray true).wp P Q a w :=
  region_only hm (by simpa using h)
theorem take {P : Program} {l : List Oper} {Q : Exit → Act → World → Prop} {F : Nat} {listed : Array Bool} {a : Act} {w : World} (fs : List Bool) (fuel : Nat) (hs : Region.noSelect l.toArray = true) (hF : F = fuel + (idx fs 0).length) (hl : fs.length ≤ l.length) (hb : batchB l.toArray (idx fs 0) listed = true)
    (h : ∀ K : Act → Prop, (∀ a', wpAny P .any l.toArray (only Q) fuel (mark (idx fs 0) listed) a' w → K a') → wpQuiet P l.toArray (fun _ => True) K (pick fs l) a) : wpAny P .any l.toArray (only Q) F listed a w := by
  rw [hF]
  exact batch hs (idx fs 0) (pick fs l) fuel listed a w (idx_pick _ fs l 0 (by simp) hl) hb (h _ (fun _ h => h))
theorem one {P : Program} {l : List Oper} {Q : Exit → Act → World → Prop} {F : Nat} {listed : Array Bool} {a : Act} {w : World} (fs : List Bool) (fuel : Nat) (i : Nat) (o : Oper) (ho : pick fs l = [o]) (hi : l[i]? = some o) (hr : Region.ready .any l.toArray listed = [i]) (hF : F = fuel + 1)
    (h : ∀ K : Act → World → Prop, (∀ a' w', wpAny P .any l.toArray (only Q) fuel (listed.setIfInBounds i true) a' w' → K a' w') → wpList P l.toArray (only fun _ => K) (pick fs l) a w) : wpAny P .any l.toArray (only Q) F listed a w := by
  rw [hF]
  have h1 := h _ (fun _ _ h => h)
  rw [ho] at h1
  exact heavy (by simpa using hi) hr h1
/-- two operations that may come up: each, and what follows it -/
theorem pair {P : Program} {l : List Oper} {Q : Exit → Act → World → Prop} {F : Nat} {listed : Array Bool} {a : Act} {w : World} (fs fs' : List Bool) (fuel : Nat) (i j : Nat) (o o' : Oper) (ho : pick fs l = [o]) (ho' : pick fs' l = [o']) (hi : l[i]? = some o) (hj : l[j]? = some o') (hr : Region.ready .any l.toArray listed = [i, j]) (hF : F = fuel + 1)
    (h : ∀ K : Act → World → Prop, (∀ a' w', wpAny P .any l.toArray (only Q) fuel (listed.setIfInBounds i true) a' w' → K a' w') → wpList P l.toArray (only fun _ => K) (pick fs l) a w)
    (h' : ∀ K : Act → World → Prop, (∀ a' w', wpAny P .any l.toArray (only Q) fuel (listed.setIfInBounds j true) a' w' → K a' w') → wpList P l.toArray (only fun _ => K) (pick fs' l) a w) : wpAny P .any l.toArray (only Q) F listed a w := by
  rw [hF]
  have h1 := h _ (fun _ _ h => h)
  have h2 := h' _ (fun _ _ h => h)
  rw [ho] at h1
  rw [ho'] at h2
  have key : ∀ (k : Nat) (p : Oper), l[k]? = some p → wpList P l.toArray (only fun _ => wpAny P .any l.toArray (only Q) fuel (listed.setIfInBounds k true)) [p] a w → wpOp P l.toArray (only Q) k (wpAny P .any l.toArray (only Q) fuel (listed.setIfInBounds k true)) a w := by
    intro k p hk hp
    unfold wpOp
    have hk' : l.toArray[k]? = some p := by simpa using hk
    simp only [hk']
    unfold wpList at hp
    split
    · rename_i hw
      rw [if_pos hw] at hp
      rcases hp with hp | ⟨_, hp⟩
      · exact .inl (wp_only (fun a w h => h.2) hp)
      · exact absurd hp (no_out _)
    · rename_i hw
      rw [if_neg hw] at hp
      exact hp.2
  refine wpAny_all hr (by simp) fun k hk => ?_
  simp only [List.mem_cons, List.not_mem_nil, or_false] at hk
  rcases hk with rfl | rfl
  · exact key _ _ hi h1
  · exact key _ _ hj h2
end Go.Proofs.YteldiggaooeeeaaGreatDoor.Mix
