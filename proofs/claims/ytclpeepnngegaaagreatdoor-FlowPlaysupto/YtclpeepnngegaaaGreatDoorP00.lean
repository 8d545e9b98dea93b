/-
  Math Base PSmall POwn PSplit Mix MixH Zip: lemmas of the proof of FlowPlays, and walks through the functions that it calls.
-/
import Derived.Test.YtclpeepnngegaaaGreatDoorProg
import Derived.WalkKit
import Derived.WalkSpells
import Derived.WalkLawsBesides
import Derived.Laws.OwnMore
import Derived.Laws.AppendOwn
import Derived.Laws.AppendOwnNone
import Derived.ArgAppend
import Derived.Maps.AppendAt
import Derived.Deep.DeepAppendRoom
import Derived.BigQuiet
import Derived.OrdersHeld
namespace Go.Proofs.YtclpeepnngegaaaGreatDoor.M
end Go.Proofs.YtclpeepnngegaaaGreatDoor.M
namespace Go.Proofs.YtclpeepnngegaaaGreatDoor
open Go.RowKit
def toI (l : List Nat) : List Int := l.map (fun x : Nat => (x : Int))
theorem toI_len (l : List Nat) : (toI l).length = l.length := by simp [toI]
theorem toI_getD (l : List Nat) (i : Nat) : (toI l).getD i 0 = ((l.getD i 0 : Nat) : Int) := by
 simp only [toI, List.getD, List.getElem?_map]
 cases l[i]? <;> rfl
theorem owns_mono {w : World} {base base' : Nat} {e : TypeId} {size : Nat} {v : Value} {n : Nat} {xs : List Value} (h : w.ownsRow base e size v n xs) (hb : base' ≤ base) : w.ownsRow base' e size v n xs := by
 refine ⟨h.1, ?_⟩
 rcases h.2 with h2 | ⟨g, cap, cur, hv, hg, r⟩
 · exact .inl h2
 · exact .inr ⟨g, cap, cur, hv, by omega, r⟩
theorem owns_shape {w : World} {base : Nat} {e : TypeId} {size : Nat} {v : Value} {n : Nat} {xs : List Value} (h : w.ownsRow base e size v n xs) : ∃ a c, v = .slice a n c := by
 rcases h.2 with ⟨rfl, rfl⟩ | ⟨g, cap, cur, hv, r⟩
 · exact ⟨none, 0, rfl⟩
 · exact ⟨_, _, hv⟩
theorem Tryz.infoInt : (Tryz.prog.info? 3).map (fun i => (i.zero, i.size, i.bytes)) = some (some (.int .i64 0), 1, 8) := by kernel_rfl
theorem Tryz.infoByte : (Tryz.prog.info? 5).map (fun i => (i.zero, i.size, i.bytes)) = some (some (.int .u8 0), 1, 1) := by kernel_rfl
end Go.Proofs.YtclpeepnngegaaaGreatDoor
namespace Go.Proofs.YtclpeepnngegaaaGreatDoor
open Go.RowKit
end Go.Proofs.YtclpeepnngegaaaGreatDoor
namespace Go.Proofs.YtclpeepnngegaaaGreatDoor
open Go.RowKit
end Go.Proofs.YtclpeepnngegaaaGreatDoor
namespace Go.Proofs.YtclpeepnngegaaaGreatDoor
open Go.RowKit
structure Ch (S : Nat → Prop) (w w' : World) : Prop where
  os : w'.os = w.os
  tape : w'.tape = w.tape
  output : w'.output = w.output
  size : w.heap.size ≤ w'.heap.size
  block : ∀ k, k < w.heap.size → ¬ S k → w'.heap[k]? = w.heap[k]?
theorem Ch.refl (S : Nat → Prop) (w : World) : Ch S w w := ⟨rfl, rfl, rfl, Nat.le_refl _, fun _ _ _ => rfl⟩
theorem Ch.trans {S T : Nat → Prop} {a b c : World} (h : Ch S a b) (k : Ch T b c) (hT : ∀ x, x < a.heap.size → T x → S x) : Ch S a c :=
 ⟨k.os.trans h.os, k.tape.trans h.tape, k.output.trans h.output, Nat.le_trans h.size k.size, fun x hx hS => (k.block x (Nat.lt_of_lt_of_le hx h.size) (fun t => hS (hT x hx t))).trans (h.block x hx hS)⟩
theorem Ch.mono {S T : Nat → Prop} {a b : World} (h : Ch S a b) (hS : ∀ x, x < a.heap.size → S x → T x) : Ch T a b := ⟨h.os, h.tape, h.output, h.size, fun x hx hT => h.block x hx (fun s => hT (hS x hx s))⟩
theorem Ch.ofGrown {a b : World} {r : Option Nat} (h : a.grownBy b r) : Ch (fun k => r = some k) a b := ⟨h.os, h.tape, h.output, h.size, fun x hx hr => h.block x hx (fun e => hr e.symm)⟩
theorem Ch.ofBelow {S : Nat → Prop} {a b : World} (h : Below a.heap.size a b) : Ch S a b := ⟨h.os, h.tape, h.output, h.size, fun x hx _ => h.block x hx⟩
theorem Ch.below {S : Nat → Prop} {a b : World} {B : Nat} (h : Ch S a b) (hB : ∀ x, S x → B ≤ x) (hs : B ≤ a.heap.size) : Below B a b := ⟨h.os, h.tape, h.output, h.size, fun x hx => h.block x (Nat.lt_of_lt_of_le hx hs) (fun s => by have := hB x s; omega)⟩
theorem Ch.cell {S : Nat → Prop} {a b : World} (h : Ch S a b) {p : Addr} {v : Value} (hc : a.cell? p = some v) (hS : ¬ S p.block) : b.cell? p = some v :=
 (World.cell?_of_block (h.block p.block (World.block_lt_of_cell? a p hc) hS)).trans hc
theorem Ch.frozen {S : Nat → Prop} {a b : World} (h : Ch S a b) {p : Addr} (hlt : p.block < a.heap.size) (hS : ¬ S p.block) : b.frozen? p = a.frozen? p := World.frozen?_of_block (h.block p.block hlt hS)
theorem Ch.owns {S : Nat → Prop} {a b : World} (h : Ch S a b) {base : Nat} {e : TypeId} {sz : Nat} {v : Value} {n : Nat} {xs : List Value} (k : a.ownsRow base e sz v n xs) (hS : ∀ g, v.ownBlock = some g → ¬ S g) : b.ownsRow base e sz v n xs := by
 refine ⟨k.1, ?_⟩
 rcases k.2 with hn | ⟨g, cap, cur, rfl, hb, hgg, rest⟩
 · exact .inl hn
 · refine .inr ⟨g, cap, cur, rfl, hb, ?_, rest⟩
   rw [h.block g (Array.getElem?_eq_some_iff.1 hgg).1 (hS g rfl)]
   exact hgg
theorem Ch.set {S : Nat → Prop} {a b : World} (h : Ch S a b) (p : Addr) (v : Value) (hp : S p.block) : Ch S a (b.setCell p v) :=
 ⟨h.os, h.tape, h.output, by simpa using h.size, fun k hk hS => by rw [heap_setCell_other _ _ _ _ (fun e => hS (by rw [e]; exact hp))]; exact h.block k hk hS⟩
end Go.Proofs.YtclpeepnngegaaaGreatDoor
namespace Go.Proofs.YtclpeepnngegaaaGreatDoor.Mix
def only (Q : Exit → Act → World → Prop) : Exit → Act → World → Prop := fun e a w => e = .normal ∧ Q .normal a w
theorem only_panic {Q : Exit → Act → World → Prop} {c : List PanicEntry} {a a' : Act} {w : World} (h : only Q (.panic c) a w) : only Q (.panic c) a' w := by cases h.1
theorem region_only {P : Program} {ops : Array Oper} {Q : Exit → Act → World → Prop} {a : Act} {w : World} {id : Nat} (hm : P.follows .mixedOrders = true)
 (h : wpAny P .any ops (only Q) ops.size (Array.replicate ops.size false) a w.drew) : (Code.region id ops true).wp P Q a w :=
 Code.wp_mono (fun e a w h => by obtain ⟨rfl, h⟩ := h; exact h) (wp_region_any (Q := only Q) hm h)
def kind (o : Op) : Bool :=
 match o with
 | .move _ => true
 | .assign _ => true
 | .pick _ _ _ => true
 | .binOp _ _ _ _ _ => true
 | .unOp _ _ _ => true
 | .convert _ _ _ => true
 | .slice _ _ _ _ _ => true
 | .extract _ _ => true
 | .indexAddr _ _ _ => true
 | .build _ _ => true
 | .fieldAddr _ _ _ => true
 | .nilCheck _ => true
 | .field _ _ _ => true
 | .index _ _ _ => true
 | .call c => match c.callee with | .builtin .len => true | _ => false
 | _ => false
theorem then_value {s : Result Value} {n : Next} {w' : World} (h : (s.andThen fun a w => .ok (Next.value a) w) = .ok n w') : ∃ v, n = .value v := by
 cases s with
 | ok a w => simp only [Result.andThen, Result.ok.injEq] at h; exact ⟨a, h.1.symm⟩
 | halt x w => simp [Result.andThen] at h
theorem value_of {P : Program} {o : Oper} (hk : kind o.op = true) {ρ : Operand → Value} {w w' : World} {n : Next} (h : (execOp ρ o).run P w = .ok n w') : ∃ v, n = .value v := by
 obtain ⟨dst, op, type, pos, after, guard⟩ := o
 cases op <;> simp only [kind, Bool.false_eq_true] at hk
 case move x => simp [execOp] at h; exact ⟨_, h.1.symm⟩
 case assign x => simp [execOp] at h; exact ⟨_, h.1.symm⟩
 case nilCheck x =>
  simp only [execOp] at h
  (repeat' split at h) <;> first
   | (simp only [Sem.run_pure, Result.ok.injEq] at h; exact ⟨_, h.1.symm⟩)
   | (exfalso; simp [runtimePanic] at h; done)
   | skip
  all_goals
   rename_i t w0 _
   simp only [Sem.run_bind] at h
   generalize hA : Sem.run P program w = A at h
   cases A with
   | halt y w1 => simp [Result.andThen] at h
   | ok p w1 =>
    simp only [Result.andThen] at h
    generalize hB : Sem.run P (nilAhead (p.types.size + Made.depth) t w0 _) w1 = C at h
    cases C with
    | halt y w2 => simp at h
    | ok b w2 =>
     simp only at h
     split at h
     · simp only [Sem.run_bind] at h
       generalize hD : Sem.run P (unsupported _) w2 = D at h
       cases D with
       | halt y w3 => simp [Result.andThen] at h
       | ok u w3 => simp only [Result.andThen, Sem.run_pure, Result.ok.injEq] at h; exact ⟨_, h.1.symm⟩
     · simp only [Sem.run_pure, Result.ok.injEq] at h; exact ⟨_, h.1.symm⟩
 case pick c a b =>
  simp only [execOp, Sem.run_bind, Sem.run_pure] at h
  cases hs : (asBool (ρ c)).run P w with
  | ok b w1 => rw [hs] at h; simp only [Result.andThen, Result.ok.injEq] at h; exact ⟨_, h.1.symm⟩
  | halt x w1 => rw [hs] at h; simp [Result.andThen] at h
 case call c =>
  obtain ⟨callee, args, argTypes⟩ := c
  cases callee with
  | builtin b =>
   cases b <;> simp only [Bool.false_eq_true] at hk
   simp only [execOp, resolve, invoke, builtin, Sem.run_bind, Sem.run_pure, Result.andThen] at h
   split at h
   · simp only [Result.ok.injEq] at h; exact ⟨_, h.1.symm⟩
   · cases h
  | value f => simp at hk
  | invoke r m => simp at hk
 all_goals
  simp only [execOp, Sem.run_bind, Sem.run_pure] at h
  exact then_value h
theorem yields_of {P : Program} {ops : Array Oper} {o : Oper} {a : Act} {v : Value} (hk : kind o.op = true) (hw : Region.wanted o (yielded ops a.tmps) = true) (h : ∀ w, True → o.quietAt P a (fun _ => True) w v) : Yields P ops o v a := by
 refine .inl ⟨hw, fun w => ?_⟩
 have h1 := h w trivial
 unfold Oper.quietAt at h1
 cases hr : (execOp a.eval o).run P w with
 | ok n w' =>
  obtain ⟨u, rfl⟩ := value_of hk hr
  rw [hr] at h1
  simp only [Oper.quietUpon] at h1
  rw [h1.1, h1.2]
 | halt x w' => rw [hr] at h1; simp only [Oper.quietUpon] at h1
def batchB (ops : Array Oper) : List Nat → Array Bool → Bool
 | [], _ => true
 | i :: is, listed => ((ops[i]?).map (fun o => kind o.op)).getD false && Region.free .any ops listed i && (Region.ready .any ops listed).contains i && batchB ops is (listed.setIfInBounds i true)
def mark : List Nat → Array Bool → Array Bool
 | [], l => l
 | i :: is, l => mark is (l.setIfInBounds i true)
theorem no_out (Q : Exit → Act → World → Prop) : ¬ LetsOut (only Q) := by rintro ⟨a, w, h, _⟩; cases h
theorem wp_only {P : Program} {o : Oper} {a : Act} {w : World} {K K' : Act → World → Prop} {Q Q' : Exit → Act → World → Prop} (hK : ∀ a w, K a w → K' a w) (h : o.wp P a w K (only Q)) : o.wp P a w K' (only Q') := by
 unfold Oper.wp at *
 generalize (execOp a.eval o).run P w = r at *
 cases r with
 | ok n w' =>
  cases n <;> simp only [Oper.upon] at h ⊢
  case value v => exact hK _ _ h
  case skip => exact hK _ _ h
  case defer d => exact hK _ _ h
  case enter f args =>
   refine Calls.mono h fun e w'' he => ?_
   cases e with
   | returned v => exact hK _ _ he
   | panicked c => cases he.1
   | outgrown => exact absurd he (no_out Q)
  case row r args => exact Rows.mono h fun v w'' he => hK _ _ he
 | halt x w' =>
  cases x <;> simp only [Oper.upon] at h ⊢
  case panic v => cases h.1
def pick : List Bool → List Oper → List Oper
 | true :: fs, o :: l => o :: pick fs l
 | false :: fs, _ :: l => pick fs l
 | _, _ => []
def idx : List Bool → Nat → List Nat
 | true :: fs, k => k :: idx fs (k + 1)
 | false :: fs, k => idx fs (k + 1)
 | [], _ => []
theorem idx_pick (ops : Array Oper) : ∀ (fs : List Bool) (l : List Oper) (k : Nat), (∀ j, l[j]? = ops[k + j]?) → fs.length ≤ l.length → (idx fs k).map (fun i => ops[i]?) = (pick fs l).map some
 | [], l, k, _, _ => by cases l <;> rfl
 | f :: fs, [], k, _, hl => by simp at hl
 | f :: fs, o :: l, k, h, hl => by
  have h0 : ops[k]? = some o := by simpa using (h 0).symm
  have ih := idx_pick ops fs l (k + 1) (fun j => by have := h (j + 1); simpa [Nat.add_assoc, Nat.add_comm 1 j] using this) (by simpa using hl)
  cases f
  · exact ih
  · simp only [idx, pick, List.map_cons, h0, ih]
theorem start {P : Program} {l : List Oper} {Q : Exit → Act → World → Prop} {a : Act} {w : World} {id : Nat} (hm : P.follows .mixedOrders = true)
 (h : wpAny P .any l.toArray (only Q) l.length (Array.replicate l.length false) a w.drew) : (Code.region id l.toArray true).wp P Q a w :=
 region_only hm (by simpa using h)
end Go.Proofs.YtclpeepnngegaaaGreatDoor.Mix
namespace Go.Proofs.YtclpeepnngegaaaGreatDoor.MixH
open Go.Proofs.YtclpeepnngegaaaGreatDoor.Mix
theorem start {P : Program} {l : List Oper} {Q : Exit → Act → World → Prop} {a : Act} {w : World} {id : Nat} (S : World → Prop) (hm : P.follows .mixedOrders = true)
 (h : wpAnyH P .any l.toArray (only Q) S l.length (Array.replicate l.length false) a w.drew) : (Code.region id l.toArray true).wp P Q a w :=
 Mix.start hm (wpAny_of_held _ _ _ _ h)
theorem take {P : Program} {l : List Oper} {Q : Exit → Act → World → Prop} {S : World → Prop} {F : Nat} {listed : Array Bool} {a : Act} {w : World} (fuel i : Nat) (o : Oper) (v : Value) (hi : l[i]? = some o) (hs : Region.noSelect l.toArray = true) (hf : Region.free .any l.toArray listed i = true) (hr : (Region.ready .any l.toArray listed).contains i = true) (hF : F = fuel + 1)
 (hy : YieldsIf P l.toArray S o v a) (hS : S w) (h : ∀ a', a' = a.put o.dst v → wpAnyH P .any l.toArray (only Q) S fuel (listed.setIfInBounds i true) a' w) : wpAnyH P .any l.toArray (only Q) S F listed a w := by
 subst hF
 exact wpAnyH_take (by simpa using hi) hs hf hr (fun c a w h => only_panic h) hy hS (h _ rfl)
theorem batch {P : Program} {ops : Array Oper} {Q : Exit → Act → World → Prop} {S : World → Prop} (hs : Region.noSelect ops = true) : ∀ (is : List Nat) (os : List Oper) (fuel : Nat) (listed : Array Bool) (a : Act) (w : World), S w →
 is.map (fun i => ops[i]?) = os.map some → batchB ops is listed = true → wpQuiet P ops (fun _ => True) (fun a' => wpAnyH P .any ops (only Q) S fuel (Mix.mark is listed) a' w) os a → wpAnyH P .any ops (only Q) S (fuel + is.length) listed a w
 | [], [], fuel, listed, a, w, _, _, _, h => h
 | [], o :: os, _, _, _, _, _, he, _, _ => by simp at he
 | i :: is, [], _, _, _, _, _, he, _, _ => by simp at he
 | i :: is, o :: os, fuel, listed, a, w, hS, he, hb, h => by
  simp only [List.map_cons, List.cons.injEq] at he
  obtain ⟨hi, he⟩ := he
  simp only [batchB, hi, Option.map_some, Option.getD_some, Bool.and_eq_true] at hb
  obtain ⟨⟨⟨hk, hf⟩, hr⟩, hb⟩ := hb
  simp only [wpQuiet] at h
  by_cases hw : Region.wanted o (yielded ops a.tmps) = true
  · rw [if_pos hw] at h
    obtain ⟨v, hv, hn⟩ := h
    exact wpAnyH_take hi hs hf hr (fun c a w h => only_panic h) (yields_of hk hw hv).yieldsIf hS (batch hs is os fuel _ _ w hS he hb hn)
  · rw [if_neg hw] at h
    exact wpAnyH_take hi hs hf hr (fun c a w h => only_panic h) (.inr ⟨by simpa using hw, rfl⟩) hS (batch hs is os fuel _ _ w hS he hb h)
theorem takes {P : Program} {l : List Oper} {Q : Exit → Act → World → Prop} {S : World → Prop} {F : Nat} {listed : Array Bool} {a : Act} {w : World} (fs : List Bool) (fuel : Nat) (hs : Region.noSelect l.toArray = true) (hF : F = fuel + (idx fs 0).length) (hl : fs.length ≤ l.length) (hb : batchB l.toArray (idx fs 0) listed = true) (hS : S w)
 (h : ∀ K : Act → Prop, (∀ a', wpAnyH P .any l.toArray (only Q) S fuel (Mix.mark (idx fs 0) listed) a' w → K a') → wpQuiet P l.toArray (fun _ => True) K (pick fs l) a) : wpAnyH P .any l.toArray (only Q) S F listed a w := by
 rw [hF]
 exact batch hs (idx fs 0) (pick fs l) fuel listed a w hS (idx_pick _ fs l 0 (by simp) hl) hb (h _ (fun _ h => h))
theorem one {P : Program} {l : List Oper} {Q : Exit → Act → World → Prop} {S : World → Prop} {F : Nat} {listed : Array Bool} {a : Act} {w : World} (fs : List Bool) (fuel : Nat) (i : Nat) (o : Oper) (ho : pick fs l = [o]) (hi : l[i]? = some o) (hr : Region.ready .any l.toArray listed = [i]) (hF : F = fuel + 1)
 (h : ∀ K : Act → World → Prop, (∀ a' w', S w' → wpAnyH P .any l.toArray (only Q) S fuel (listed.setIfInBounds i true) a' w' → K a' w') → wpList P l.toArray (only fun _ => K) (pick fs l) a w) : wpAnyH P .any l.toArray (only Q) S F listed a w := by
 subst hF
 have h1 := h _ (fun _ _ hs h => (⟨hs, h⟩ : _ ∧ _))
 rw [ho] at h1
 refine wpAnyH_all hr (by simp) fun j hj => ?_
 simp only [List.mem_singleton] at hj
 subst hj
 have hi' : l.toArray[j]? = some o := by simpa using hi
 unfold wpOp
 simp only [hi']
 unfold wpList at h1
 split
 · rename_i hw
   rw [if_pos hw] at h1
   rcases h1 with h1 | ⟨_, h1⟩
   · exact .inl (wp_only (fun a w h => h.2) h1)
   · exact absurd h1 (no_out _)
 · rename_i hw
   rw [if_neg hw] at h1
   exact h1.2
theorem done {P : Program} {l : List Oper} {Q : Exit → Act → World → Prop} {S : World → Prop} {listed : Array Bool} {a : Act} {w : World} {fuel : Nat} (hr : Region.ready .any l.toArray listed = []) (h : Q .normal a w) : wpAnyH P .any l.toArray (only Q) S fuel listed a w :=
 wpAnyH_done hr ⟨rfl, h⟩ fuel
end Go.Proofs.YtclpeepnngegaaaGreatDoor.MixH
namespace Go.Proofs.YtclpeepnngegaaaGreatDoor.MixH
open Go.Proofs.YtclpeepnngegaaaGreatDoor.Mix
theorem tk {P : Program} {l : List Oper} {Q : Exit → Act → World → Prop} {S : World → Prop} {F : Nat} {listed : Array Bool} {a : Act} {w : World} (fuel i : Nat) {o : Oper} (hi : l[i]? = some o) (v : Value) (hy : YieldsIf P l.toArray S o v a) (hS : S w) (h : ∀ a', a' = a.put o.dst v → wpAnyH P .any l.toArray (only Q) S fuel (listed.setIfInBounds i true) a' w)
    (hs : Region.noSelect l.toArray = true := by kernel_rfl) (hf : Region.free .any l.toArray listed i = true := by kernel_rfl) (hr : (Region.ready .any l.toArray listed).contains i = true := by kernel_rfl) (hF : F = fuel + 1 := by kernel_rfl) : wpAnyH P .any l.toArray (only Q) S F listed a w := take fuel i o v hi hs hf hr hF hy hS h
theorem tks {P : Program} {l : List Oper} {Q : Exit → Act → World → Prop} {S : World → Prop} {F : Nat} {listed : Array Bool} {a : Act} {w : World} (fs : List Bool) (fuel : Nat) (hS : S w)
    (h : ∀ K : Act → Prop, (∀ a', wpAnyH P .any l.toArray (only Q) S fuel (Mix.mark (idx fs 0) listed) a' w → K a') → wpQuiet P l.toArray (fun _ => True) K (pick fs l) a)
    (hs : Region.noSelect l.toArray = true := by kernel_rfl) (hF : F = fuel + (idx fs 0).length := by kernel_rfl) (hl : fs.length ≤ l.length := by decide) (hb : batchB l.toArray (idx fs 0) listed = true := by kernel_rfl) : wpAnyH P .any l.toArray (only Q) S F listed a w := takes fs fuel hs hF hl hb hS h
end Go.Proofs.YtclpeepnngegaaaGreatDoor.MixH
namespace Go.Proofs.YtclpeepnngegaaaGreatDoor
open Go.RowKit
theorem zP1 (a : Act) (t : Tmp) (v : Value) : a.put (some t) v = ⟨a.tmps.setIfInBounds t v, a.defers⟩ := rfl
theorem zP2 {α : Type} (l : List α) (i : Nat) (x : α) : l.toArray.setIfInBounds i x = (l.set i x).toArray := List.setIfInBounds_toArray ..
theorem zP3 {α : Type} (a : α) (l : List α) (i : Nat) (x : α) : (a :: l).set (i + 1) x = a :: l.set i x := rfl
theorem zP4 {α : Type} (a : α) (l : List α) (x : α) : (a :: l).set 0 x = x :: l := rfl
theorem zMc {α : Type} {a b : α} {l : List α} : a ∈ b :: l ↔ a = b ∨ a ∈ l := List.mem_cons
theorem zMn {α : Type} {a : α} : ¬ a ∈ ([] : List α) := List.not_mem_nil
theorem zDr {w A : World} (h : A = w.drew) : Below w.heap.size w A := by rw [h]; exact (Below.refl _ _).drew
theorem zBx (w : World) (C : Array Value) (T : TypeId) : ∃ W B, Hid (W.heap.size = w.heap.size + 1) ∧ Hid (w.heap.size = B) ∧ Hid (Below w.heap.size w W) ∧ Hid (w.alloc (.cells C T) = W) ∧ W.heap[B]? = some (.cells C T (0, 0)) := ⟨_, _, World.size_alloc _ _, rfl, (Below.refl _ _).alloc (Nat.le_refl _) _, rfl, heap_alloc_new _ _⟩
end Go.Proofs.YtclpeepnngegaaaGreatDoor
