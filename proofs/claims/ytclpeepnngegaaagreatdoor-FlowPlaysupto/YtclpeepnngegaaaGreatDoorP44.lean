/-
  MixL FPp FPq: lemmas of the proof of FlowPlays, and walks through the functions that it calls.
-/
import Derived.Test.YtclpeepnngegaaaGreatDoorP00
import Derived.Test.YtclpeepnngegaaaGreatDoorP43
namespace Go.Proofs.YtclpeepnngegaaaGreatDoor.MixL
open Go.Proofs.YtclpeepnngegaaaGreatDoor.Mix
section
variable {P : Program} {ops : Array Oper} {Q : Exit → Act → World → Prop} {S : World → Prop} {j0 : Nat}
def wpL (P : Program) (ops : Array Oper) (Q : Exit → Act → World → Prop) (S : World → Prop) (j0 : Nat) : Nat → Array Bool → Act → World → Prop
 | 0, listed, a, w => Region.ready .any ops listed = [] ∧ Q .normal a w
 | fuel + 1, listed, a, w =>
  (Region.ready .any ops listed = [] → Q .normal a w) ∧
  ∀ i ∈ Region.ready .any ops listed, wpOp P ops Q i (fun a' w' => ((listed.setIfInBounds i true).getD j0 true = false → S w') ∧ wpL P ops Q S j0 fuel (listed.setIfInBounds i true) a' w') a w
theorem toAny : ∀ (fuel : Nat) (listed : Array Bool) (a : Act) (w : World), wpL P ops Q S j0 fuel listed a w → wpAny P .any ops Q fuel listed a w
 | 0, _, _, _, h => h
 | fuel + 1, _, _, _, h => ⟨h.1, fun i hi => wpOp_mono (fun a' w' h' => toAny fuel _ a' w' h'.2) (h.2 i hi)⟩
theorem first {i : Nat} {oi : Oper} {v : Value} (hi : ops[i]? = some oi) (hsel : ∀ (j : Nat) (o : Oper) cs b, ops[j]? = some o → o.op ≠ .select cs b)
    (hQ : ∀ c a w, Q (.panic c) (a.put oi.dst v) w → Q (.panic c) a w) (h0i : i ≠ j0) (hwait : ∀ o0, ops[j0]? = some o0 → ∃ e ∈ o0.after, Region.binds .any e = true ∧ e.on = i) :
    ∀ (fuel : Nat) (listed : Array Bool) (a : Act) (w : World),
     (∀ j oj, ops[j]? = some oj → j ≠ i → listed.getD j true = false → (∀ e ∈ oj.after, Region.binds .any e = true → e.on ≠ i) → oi.apart ops oj = true) →
     listed.getD j0 true = false → i ∈ Region.ready .any ops listed → YieldsIf P ops S oi v a → S w →
     wpL P ops Q S j0 fuel (listed.setIfInBounds i true) (a.put oi.dst v) w → wpL P ops Q S j0 (fuel + 1) listed a w := by
 intro fuel
 induction fuel with
 | zero =>
  intro listed a w _ _ hr hy hS H
  refine ⟨fun h => (by rw [h] at hr; cases hr), fun j hj => ?_⟩
  by_cases hji : j = i
  · rw [hji]; exact hy.wpOp hi hS ⟨fun _ => hS, H⟩
  · have := ready_mono hj hji
    rw [H.1] at this
    cases this
 | succ fuel ih =>
  intro listed a w hfree hnl hr hy hS H
  refine ⟨fun h => (by rw [h] at hr; cases hr), fun j hj => ?_⟩
  by_cases hji : j = i
  · rw [hji]; exact hy.wpOp hi hS ⟨fun _ => hS, H⟩
  · have h1 := H.2 j (ready_mono hj hji)
    obtain ⟨hjun, oj, hoj, hall⟩ := mem_ready.1 hj
    have hnot : ∀ e ∈ oj.after, Region.binds .any e = true → e.on ≠ i := fun e he hb heq => by
     have h1 := hall e he hb
     have h0 := (mem_ready.1 hr).1
     rw [heq] at h1
     rcases Nat.lt_or_ge i listed.size with h' | h'
     · simp [h'] at h0 h1; rw [h0] at h1; cases h1
     · simp [Array.getElem?_eq_none h'] at h1
    have hj0 : j ≠ j0 := by
     intro e
     obtain ⟨e1, he1, hb1, ho1⟩ := hwait oj (by rw [← e]; exact hoj)
     exact hnot e1 he1 hb1 ho1
    have h2 := wpOp_putIf hoj (hfree j oj hoj hji hjun hnot) (fun cs b => hsel i oi cs b hi) (fun cs b => hsel j oj cs b hoj) hQ hy h1
    have hfree' : ∀ k ok, ops[k]? = some ok → k ≠ i → (listed.setIfInBounds j true).getD k true = false →
        (∀ e ∈ ok.after, Region.binds .any e = true → e.on ≠ i) → oi.apart ops ok = true := fun k ok hk hki hun hno => by
      refine hfree k ok hk hki ?_ hno
      by_cases hjk : j = k
      · rw [← hjk]; exact hjun
      · rw [getD_set_ne true hjk] at hun; exact hun
    have hnl' : (listed.setIfInBounds j true).getD j0 true = false := by rw [getD_set_ne true hj0]; exact hnl
    have hnl2 : ((listed.setIfInBounds i true).setIfInBounds j true).getD j0 true = false := by rw [getD_set_ne true hj0, getD_set_ne true h0i]; exact hnl
    refine wpOp_mono (fun a' w' h3 => ⟨fun _ => h3.2.1 hnl2, ih (listed.setIfInBounds j true) a' w' hfree' hnl' (ready_mono hr (Ne.symm hji)) h3.1 (h3.2.1 hnl2) ?_⟩) h2
    rw [Array.setIfInBounds_comm _ _ hji]
    exact h3.2.2
end
def waitsB (l : List Oper) (j0 i : Nat) : Bool := match l[j0]? with | some o0 => o0.after.any (fun e => Region.binds .any e && e.on == i) | none => true
theorem waits {l : List Oper} {j0 i : Nat} (h : waitsB l j0 i = true) : ∀ o0, l.toArray[j0]? = some o0 → ∃ e ∈ o0.after, Region.binds .any e = true ∧ e.on = i := by
 intro o0 ho
 unfold waitsB at h
 have ho' : l[j0]? = some o0 := by simpa using ho
 rw [ho'] at h
 simp only [Array.any_eq_true', Bool.and_eq_true, beq_iff_eq] at h
 obtain ⟨e, he, h1, h2⟩ := h
 exact ⟨e, he, h1, h2⟩
theorem start {P : Program} {l : List Oper} {Q : Exit → Act → World → Prop} {a : Act} {w : World} {id : Nat} (S : World → Prop) (j0 : Nat) (hm : P.follows .mixedOrders = true)
    (h : wpL P l.toArray (only Q) S j0 l.length (Array.replicate l.length false) a w.drew) : (Code.region id l.toArray true).wp P Q a w :=
  Mix.start hm (toAny _ _ _ _ h)
theorem take {P : Program} {l : List Oper} {Q : Exit → Act → World → Prop} {S : World → Prop} {j0 F : Nat} {listed : Array Bool} {a : Act} {w : World} (fuel i : Nat) (o : Oper) (v : Value) (hi : l[i]? = some o) (hs : Region.noSelect l.toArray = true) (hf : Region.free .any l.toArray listed i = true) (hr : (Region.ready .any l.toArray listed).contains i = true) (hF : F = fuel + 1) (h0 : (i != j0) = true) (hw : waitsB l j0 i = true) (hnl : listed.getD j0 true = false)
    (hy : YieldsIf P l.toArray S o v a) (hS : S w) (h : ∀ a', a' = a.put o.dst v → wpL P l.toArray (only Q) S j0 fuel (listed.setIfInBounds i true) a' w) : wpL P l.toArray (only Q) S j0 F listed a w := by
  subst hF
  exact first (by simpa using hi) (Region.noSelect_spec hs) (fun c a w h => only_panic h) (bne_iff_ne.1 h0) (waits hw) fuel listed a w (Region.free_spec (by simpa using hi) hf) hnl (by simpa using hr) hy hS (h _ rfl)
def batchJ (l : List Oper) (j0 : Nat) (is : List Nat) : Bool := is.all (fun i => i != j0 && waitsB l j0 i)
theorem batch {P : Program} {l : List Oper} {Q : Exit → Act → World → Prop} {S : World → Prop} {j0 : Nat} (hs : Region.noSelect l.toArray = true) : ∀ (is : List Nat) (os : List Oper) (fuel : Nat) (listed : Array Bool) (a : Act) (w : World), S w →
    is.map (fun i => l.toArray[i]?) = os.map some → batchB l.toArray is listed = true → batchJ l j0 is = true → listed.getD j0 true = false → wpQuiet P l.toArray (fun _ => True) (fun a' => wpL P l.toArray (only Q) S j0 fuel (Mix.mark is listed) a' w) os a → wpL P l.toArray (only Q) S j0 (fuel + is.length) listed a w
  | [], [], fuel, listed, a, w, _, _, _, _, _, h => h
  | [], o :: os, _, _, _, _, _, he, _, _, _, _ => by simp at he
  | i :: is, [], _, _, _, _, _, he, _, _, _, _ => by simp at he
  | i :: is, o :: os, fuel, listed, a, w, hS, he, hb, hj, hnl, h => by
   simp only [List.map_cons, List.cons.injEq] at he
   obtain ⟨hi, he⟩ := he
   simp only [batchB, hi, Option.map_some, Option.getD_some, Bool.and_eq_true] at hb
   obtain ⟨⟨⟨hk, hf⟩, hr⟩, hb⟩ := hb
   simp only [batchJ, List.all_cons, Bool.and_eq_true] at hj
   obtain ⟨⟨hj1, hj2⟩, hj3⟩ := hj
   have hfst := fun (v : Value) (hy : YieldsIf P l.toArray S o v a) (H : wpL P l.toArray (only Q) S j0 (fuel + is.length) (listed.setIfInBounds i true) (a.put o.dst v) w) => first (Q := only Q) hi (Region.noSelect_spec hs) (fun c a w h => only_panic h) (bne_iff_ne.1 hj1) (waits hj2) (fuel + is.length) listed a w (Region.free_spec hi hf) hnl (by simpa using hr) hy hS H
   have hnl' : (listed.setIfInBounds i true).getD j0 true = false := by rw [getD_set_ne true (bne_iff_ne.1 hj1)]; exact hnl
   simp only [wpQuiet] at h
   by_cases hw : Region.wanted o (yielded l.toArray a.tmps) = true
   · rw [if_pos hw] at h
     obtain ⟨v, hv, hn⟩ := h
     exact hfst v (yields_of hk hw hv).yieldsIf (batch hs is os fuel _ _ w hS he hb (by unfold batchJ; exact hj3) hnl' hn)
   · rw [if_neg hw] at h
     exact hfst undef (.inr ⟨by simpa using hw, rfl⟩) (batch hs is os fuel _ _ w hS he hb (by unfold batchJ; exact hj3) hnl' h)
theorem takes {P : Program} {l : List Oper} {Q : Exit → Act → World → Prop} {S : World → Prop} {j0 F : Nat} {listed : Array Bool} {a : Act} {w : World} (fs : List Bool) (fuel : Nat) (hs : Region.noSelect l.toArray = true) (hF : F = fuel + (idx fs 0).length) (hl : fs.length ≤ l.length) (hb : batchB l.toArray (idx fs 0) listed = true) (hj : batchJ l j0 (idx fs 0) = true) (hnl : listed.getD j0 true = false) (hS : S w)
    (h : ∀ K : Act → Prop, (∀ a', wpL P l.toArray (only Q) S j0 fuel (Mix.mark (idx fs 0) listed) a' w → K a') → wpQuiet P l.toArray (fun _ => True) K (pick fs l) a) : wpL P l.toArray (only Q) S j0 F listed a w := by
  rw [hF]
  exact batch hs (idx fs 0) (pick fs l) fuel listed a w hS (idx_pick _ fs l 0 (by simp) hl) hb hj hnl (h _ (fun _ h => h))
theorem many {P : Program} {l : List Oper} {Q : Exit → Act → World → Prop} {S : World → Prop} {j0 F : Nat} {listed : Array Bool} {a : Act} {w : World} (is : List Nat) (fuel : Nat) (hr : Region.ready .any l.toArray listed = is) (hne : is ≠ []) (hF : F = fuel + 1)
    (h : ∀ i, i ∈ is → ∃ o, l[i]? = some o ∧ ∀ K : Act → World → Prop, (∀ a' w', ((listed.setIfInBounds i true).getD j0 true = false → S w') → wpL P l.toArray (only Q) S j0 fuel (listed.setIfInBounds i true) a' w' → K a' w') → wpList P l.toArray (only fun _ => K) [o] a w) : wpL P l.toArray (only Q) S j0 F listed a w := by
  subst hF
  refine ⟨fun h0 => absurd (hr ▸ h0) hne, fun m hm => ?_⟩
  rw [hr] at hm
  obtain ⟨o, hi, h1⟩ := h m hm
  have h0 := h1 _ (fun _ _ hs h => (⟨hs, h⟩ : _ ∧ _))
  have hi' : l.toArray[m]? = some o := by simpa using hi
  unfold wpOp
  simp only [hi']
  unfold wpList at h0
  split
  · rename_i hw
    rw [if_pos hw] at h0
    rcases h0 with h0 | ⟨_, h0⟩
    · exact .inl (wp_only (fun a w h => h.2) h0)
    · exact absurd h0 (no_out _)
  · rename_i hw
    rw [if_neg hw] at h0
    exact h0.2
theorem done {P : Program} {l : List Oper} {Q : Exit → Act → World → Prop} {S : World → Prop} {j0 : Nat} {listed : Array Bool} {a : Act} {w : World} {fuel : Nat} (hr : Region.ready .any l.toArray listed = []) (h : Q .normal a w) : wpL P l.toArray (only Q) S j0 fuel listed a w := by
 cases fuel with
 | zero => exact ⟨hr, rfl, h⟩
 | succ f => exact ⟨fun _ => ⟨rfl, h⟩, by rw [hr]; simp⟩
end Go.Proofs.YtclpeepnngegaaaGreatDoor.MixL
namespace Go.Proofs.YtclpeepnngegaaaGreatDoor
open Go.RowKit Go.Maps
theorem out_new {c : CF} {E : List FV} {x : TU} {fl : Int} {B : Nat} {er : Int} {y : TU} {E' : List FV} {v po : Int} (h : OutR c E x fl B er y E') (h1 : ckE x = 0) (h2 : fF E x = none) (h3 : oT 0 (sgN x.pr fl) = v) (hv : v ≠ 0) (h4 : bgE c E x = 0) (h5 : fpO c E x = some po) : er = 0 ∧ y = ouT c ⟨x, po, 0, 0⟩ ∧ ∃ P, B ≤ P ∧ E' = E ++ [⟨⟨x, po, v, tkN c x.pr v⟩, P⟩] := by
 rcases h with ⟨h, _⟩ | ⟨_, e, hf, _⟩ | ⟨_, hn, ⟨h, _⟩ | ⟨_, h, _⟩ | ⟨_, _, he, po', P, hpo, hP, hy, hE⟩⟩
 · exact absurd h1 h
 · rw [h2] at hf; cases hf
 · rw [h3] at h; exact absurd h hv
 · exact absurd h4 h
 · rw [h5] at hpo
   obtain rfl := Option.some.inj hpo
   rw [h3] at hE
   exact ⟨he, hy, P, hP, hE⟩
theorem wf_q4 (p : Int) (a b c d a' b' c' d' : Nat) (s r : Int) (hp : -9223372036854775808 ≤ p ∧ p ≤ 9223372036854775807) (hs : -9223372036854775808 ≤ s ∧ s ≤ 9223372036854775807) (hr : -9223372036854775808 ≤ r ∧ r ≤ 9223372036854775807) (ha : a < 256 ∧ b < 256 ∧ c < 256 ∧ d < 256) (ha' : a' < 256 ∧ b' < 256 ∧ c' < 256 ∧ d' < 256) : TU.Wf ⟨p, 4, q4 a b c d, 4, q4 a' b' c' d', s, r⟩ :=
 ⟨wf_i64 hp.1 hp.2, wf_i64 (n := 4) (by decide) (by decide), fun i _ => q4_lt ha.1 ha.2.1 ha.2.2.1 ha.2.2.2 i, wf_i64 (n := 4) (by decide) (by decide), fun i _ => q4_lt ha'.1 ha'.2.1 ha'.2.2.1 ha'.2.2.2 i, wf_i64 hs.1 hs.2, wf_i64 hr.1 hr.2⟩
def y0 : TU := ⟨17, 4, o0, 4, d0, 1000, 53⟩
theorem x0_wf : x0.Wf := wf_q4 17 10 0 0 1 198 51 100 7 5000 53 (by decide) (by decide) (by decide) (by decide) (by decide)
theorem cf0_o : ∀ i, i < 16 → cf0.o i < 256 := fun i _ => q4_lt (by decide) (by decide) (by decide) (by decide) i
theorem cf0_b : cfB cf0 = true := by decide +kernel
theorem x0_ck : ckE x0 = 0 := by decide +kernel
theorem bg0 : bgE cf0 [] x0 = 0 := by decide +kernel
theorem fp0 : fpO cf0 [] x0 = some 1000 := by decide +kernel
theorem st_lt {w : World} {ss : List SV} {a : Option Addr} {i : Nat} {g off : Nat} (h : ListG 41 stL SV.Wf w a ss) (hi : i < ss.length) (ha : a = some ⟨g, off, none⟩) : g < w.heap.size := by
 obtain ⟨_, g', off', ha', hlt, _⟩ := h.at i ss[i] (List.getElem?_eq_getElem hi)
 rw [ha] at ha'
 simp only [Option.some.injEq, Addr.mk.injEq, and_true] at ha'
 obtain ⟨rfl, _⟩ := ha'
 exact hlt
theorem rng_old {w A A' : World} {g o : Nat} {l : List Value} (h : Below w.heap.size w A) (h' : Below w.heap.size w A') (hg : g < w.heap.size) (r : A.rangeAt g o l) : A'.rangeAt g o l := fun j v hj => by
 rw [← r j v hj]
 exact World.cell?_of_block ((h'.block g hg).trans (h.block g hg).symm)
structure GO where
  t : Nat
  M : Nat
  N : Nat
  E : List FV
  L : List FN
def obQ (x : XV) (o : GO) (q : Nat) : Prop := x.p ≠ none ∧ KPB o.t o.M o.N x.a x.n x.k o.E q
def OBK (W : World) (x : XV) (o : GO) (w : World) : Prop := x.p = none ∨ (x.p = some ⟨o.t, 0, none⟩ ∧ StP W o.t o.M o.N x.c x.a x.n x.k x.y o.E o.L w)
theorem OBK.ch {W : World} {x : XV} {o : GO} {w w' : World} (h : OBK W x o w) {S : Nat → Prop} (kk : Ch S w w') (hO : ∀ q, S q → W.heap.size ≤ q) (hq : ∀ q, obQ x o q → ¬ S q) : OBK W x o w' := by
 rcases h with h | ⟨h1, h2⟩
 · exact .inl h
 · exact .inr ⟨h1, h2.ch kk hO (fun q h3 => hq q ⟨by rw [h1]; simp, h3⟩)⟩
theorem OBK.lt {W : World} {x : XV} {o : GO} {w : World} (h : OBK W x o w) : ∀ q, obQ x o q → q < w.heap.size := fun q hq => by
 rcases h with h | ⟨_, h2⟩
 · exact absurd h hq.1
 · exact h2.lt q hq.2
structure PLS (W : World) (BK : Nat) (b : BV) (r Z : Nat) (x0 : XV) (o0 : GO) (x1 : XV) (o1 : GO) (w : World) : Prop where
  k0 : OBK W x0 o0 w
  k1 : OBK W x1 o1 w
  bk : BkP W BK b r w
  d0 : ∀ q, obQ x0 o0 q → ¬ BB BK b q
  d1 : ∀ q, obQ x1 o1 q → ¬ BB BK b q
  d01 : ∀ q, obQ x0 o0 q → ¬ obQ x1 o1 q
  z0 : ∀ q, obQ x0 o0 q → q ≠ Z
  z1 : ∀ q, obQ x1 o1 q → q ≠ Z
  zb : ∀ q, BB BK b q → q ≠ Z
  zl : Z < w.heap.size
  zf : W.heap.size ≤ Z
  bel : Below W.heap.size W w
theorem PLS.swap {W : World} {BK : Nat} {b : BV} {r Z : Nat} {x0 x1 : XV} {o0 o1 : GO} {w : World} (h : PLS W BK b r Z x0 o0 x1 o1 w) : PLS W BK b r Z x1 o1 x0 o0 w :=
 ⟨h.k1, h.k0, h.bk, h.d1, h.d0, fun q h1 h2 => h.d01 q h2 h1, h.z1, h.z0, h.zb, h.zl, h.zf, h.bel⟩
theorem PLS.ch {W : World} {BK : Nat} {b : BV} {r Z : Nat} {x0 x1 : XV} {o0 o1 : GO} {w w' : World} (h : PLS W BK b r Z x0 o0 x1 o1 w) {S : Nat → Prop} (kk : Ch S w w') (hO : ∀ q, S q → W.heap.size ≤ q) (h0 : ∀ q, S q → ¬ obQ x0 o0 q ∧ ¬ obQ x1 o1 q ∧ ¬ BB BK b q) : PLS W BK b r Z x0 o0 x1 o1 w' :=
 ⟨h.k0.ch kk hO (fun q h1 h2 => (h0 q h2).1 h1), h.k1.ch kk hO (fun q h1 h2 => (h0 q h2).2.1 h1), h.bk.ch kk (fun q h1 h2 => (h0 q h2).2.2 h1), h.d0, h.d1, h.d01, h.z0, h.z1, h.zb, Nat.lt_of_lt_of_le h.zl kk.size, h.zf, h.bel.trans (kk.below (fun x hx => hO x hx) h.bel.size)⟩
theorem PLS.below {W : World} {BK : Nat} {b : BV} {r Z : Nat} {x0 x1 : XV} {o0 o1 : GO} {w w' : World} (h : PLS W BK b r Z x0 o0 x1 o1 w) (kk : Below w.heap.size w w') : PLS W BK b r Z x0 o0 x1 o1 w' := h.ch (Ch.ofBelow (S := fun _ => False) kk) (fun _ q => q.elim) (fun _ q => q.elim)
theorem PLS.chZ {W : World} {BK : Nat} {b : BV} {r Z : Nat} {x0 x1 : XV} {o0 o1 : GO} {w w' : World} (h : PLS W BK b r Z x0 o0 x1 o1 w) (kk : Ch (fun q => q = Z) w w') : PLS W BK b r Z x0 o0 x1 o1 w' := h.ch kk (fun q e => by have e' : q = Z := e; have := h.zf; omega) (fun q e => ⟨fun h1 => h.z0 q h1 e, fun h1 => h.z1 q h1 e, fun h1 => h.zb q h1 e⟩)
theorem PLS.mono {W : World} {BK : Nat} {b : BV} {r r' Z : Nat} {x0 x1 : XV} {o0 o1 : GO} {w : World} (h : PLS W BK b r Z x0 o0 x1 o1 w) (hr : r ≤ r') : PLS W BK b r' Z x0 o0 x1 o1 w := { h with bk := h.bk.mono hr }
theorem play0 {W : World} {BK : Nat} {b : BV} {r Z : Nat} {x0 x1 : XV} {o0 o1 : GO} {w : World} (h : PLS W BK b r Z x0 o0 x1 o1 w) (hp : x0.p ≠ none) (g : Gl W) {s : SV} (hs : s.Wf) (hr : r ≤ 90000) :
    Calls Tryz.prog 6 #[.agg (prC x0), .agg (stC s), .pointer (some ⟨BK, 0, none⟩)] w fun ρ w' => ∃ x0' o0' b', ρ = .returned (.tuple #[.agg (prC x0'), .bool true]) ∧ PLS W BK b' (r + 4) Z x0' o0' x1 o1 w' ∧ Ch (fun q => obQ x0 o0 q ∨ BB BK b q) w w' ∧ x0'.p = x0.p ∧ x0'.p = some ⟨o0'.t, 0, none⟩ ∧ (s.kd = 1 → ∃ er y B, OutR x0.c o0.E s.x s.fl B er y o0'.E ∧ (er = 0 → x0'.y = y)) := by
  rcases h.k0 with h1 | ⟨h1, h2⟩
  · exact absurd h1 hp
  obtain ⟨p, c, a, n, k, y⟩ := x0
  simp only at h1 h2 hp
  subst h1
  refine (step_any W w o0.t o0.M o0.N c a n k y o0.E o0.L BK b r s h2 h.bk (fun q hq => h.d0 q ⟨hp, hq⟩) g hs hr).mono ?_
  rintro ρ w' ⟨a', n', k', y', E', L', b', rfl, s1, s2, s3, s4, s5, s6, s7⟩
  have hsz := s3.size
  have hf : ∀ q, (TB o0.t o0.M o0.N o0.E q ∨ BB BK b q) → W.heap.size ≤ q := fun q hq => by
   rcases hq with hq | hq
   · exact h2.ft.far q hq
   · exact h.bk.far q hq
  refine ⟨⟨some ⟨o0.t, 0, none⟩, c, a', n', k', y'⟩, ⟨o0.t, o0.M, o0.N, E', L'⟩, b', rfl, ⟨.inr ⟨rfl, s1⟩, h.k1.ch s3 hf (fun q h4 h5 => ?_), s2, fun q hq => s6 q hq.2, fun q hq h4 => ?_, fun q hq h4 => ?_, fun q hq => ?_, h.z1, fun q hq => ?_, Nat.lt_of_lt_of_le h.zl hsz, h.zf, h.bel.trans (s3.below (fun q hq => hf q hq) h.bel.size)⟩, s3.mono (fun q _ hq => hq.imp (fun h4 => ⟨hp, .inl h4⟩) id), rfl, rfl, s7⟩
  · rcases h5 with h5 | h5
    · exact h.d01 q ⟨hp, .inl h5⟩ h4
    · exact h.d1 q h4 h5
  · rcases s5 q h4 with h5 | h5
    · exact h.d1 q hq h5
    · have := h.k1.lt q hq; omega
  · rcases s4 q hq.2 with h5 | h5
    · exact h.d01 q ⟨hp, h5⟩ h4
    · have := h.k1.lt q h4; omega
  · rcases s4 q hq.2 with h5 | h5
    · exact h.z0 q ⟨hp, h5⟩
    · have := h.zl; omega
  · rcases s5 q hq with h5 | h5
    · exact h.zb q h5
    · have := h.zl; omega
theorem play1 {W : World} {BK : Nat} {b : BV} {r Z : Nat} {x0 x1 : XV} {o0 o1 : GO} {w : World} (h : PLS W BK b r Z x0 o0 x1 o1 w) (hp : x1.p ≠ none) (g : Gl W) {s : SV} (hs : s.Wf) (hr : r ≤ 90000) :
    Calls Tryz.prog 6 #[.agg (prC x1), .agg (stC s), .pointer (some ⟨BK, 0, none⟩)] w fun ρ w' => ∃ x1' o1' b', ρ = .returned (.tuple #[.agg (prC x1'), .bool true]) ∧ PLS W BK b' (r + 4) Z x0 o0 x1' o1' w' ∧ Ch (fun q => obQ x1 o1 q ∨ BB BK b q) w w' ∧ x1'.p = x1.p := by
  refine (play0 h.swap hp g hs hr).mono ?_
  rintro ρ w' ⟨x', o', b', rfl, s1, s2, s3, _, _⟩
  exact ⟨x', o', b', rfl, s1.swap, s2, s3⟩
def nilV : Value := .slice none 0 0
def bz0 : BV := ⟨.slice none 0 0, .slice none 0 0, [], []⟩
theorem bk_new (w w' : World) (hw : w.alloc (.cells #[.slice none 0 0, .slice none 0 0] 32) = w') : BkM w' w.heap.size bz0 := by
 have hB : w'.heap[w.heap.size]? = some (.cells #[.slice none 0 0, .slice none 0 0] 32 (0, 0)) := by rw [← hw]; exact heap_alloc_new _ _
 refine ⟨by simp [World.cell?, hB, bz0], by simp [World.cell?, hB, bz0], fun j => by simp [World.frozen?, hB], World.ownsRow_nil _ _ _ _, World.ownsRow_nil _ _ _ _, fun r hr => (by cases hr), fun q hq => ?_⟩
 rcases hq with hq | hq | ⟨r, hr, _⟩
 · simp [bz0, Value.ownBlock] at hq
 · simp [bz0, Value.ownBlock] at hq
 · cases hr
theorem bz0_bb {K q : Nat} (h : BB K bz0 q) : q = K := by
 rcases h with h | h | h | ⟨r, hr, _⟩
 · exact h
 · simp [bz0, Value.ownBlock] at h
 · simp [bz0, Value.ownBlock] at h
 · cases hr
end Go.Proofs.YtclpeepnngegaaaGreatDoor
namespace Go.Proofs.YtclpeepnngegaaaGreatDoor
open Go.RowKit Go.Maps
def psC (u v : XV) : Array Value := ((prC u).toList ++ (prC v).toList).toArray
theorem psC_size (u v : XV) : (psC u v).size = 128 := by simp [psC, prC]
theorem Tryz.size_psv : (Tryz.prog.info? 49).map (·.size) = some 128 := by kernel_rfl
def PsvAt (w : World) (O : Nat) (u v : XV) : Prop := w.heap[O]? = some (.cells (psC u v) 49 (0, 0))
section
variable {w : World} {O : Nat} {u v : XV} (k : PsvAt w O u v)
include k
theorem PsvAt.lt : O < w.heap.size := (Array.getElem?_eq_some_iff.1 k).1
theorem PsvAt.ch {S : Nat → Prop} {w' : World} (c : Ch S w w') (hS : ¬ S O) : PsvAt w' O u v := (c.block O k.lt hS).trans k
theorem PsvAt.below {w' : World} (c : Below w.heap.size w w') : PsvAt w' O u v := (c.block O k.lt).trans k
theorem PsvAt.cell (i : Nat) : w.cell? ⟨O, i, none⟩ = (psC u v)[i]? := by unfold PsvAt at k; simp [World.cell?, k]
theorem PsvAt.fz (j : Nat) : w.frozen? ⟨O, j, none⟩ = false := by unfold PsvAt at k; simp [World.frozen?, k]
theorem PsvAt.r0 : w.rangeAt O 0 (prC u).toList := by
 intro j x hj
 rw [Nat.zero_add, k.cell]
 unfold psC
 rw [List.getElem?_toArray, List.getElem?_append_left (List.getElem?_eq_some_iff.1 hj).1]
 exact hj
theorem PsvAt.r1 : w.rangeAt O 64 (prC v).toList := by
 intro j x hj
 rw [k.cell]
 unfold psC
 have e : (prC u).toList.length = 64 := rfl
 rw [List.getElem?_toArray, List.getElem?_append_right (by omega), e, Nat.add_sub_cancel_left]
 exact hj
theorem PsvAt.p0 : w.cell? ⟨O, 0, none⟩ = some (.pointer u.p) := k.r0 0 _ rfl
theorem PsvAt.p1 : w.cell? ⟨O, 64, none⟩ = some (.pointer v.p) := k.r1 0 _ rfl
end
theorem psv_new (w : World) (u v : XV) : PsvAt (w.alloc (.cells (psC u v) 49)) w.heap.size u v := heap_alloc_new _ _
theorem foldl_set {α : Type} : ∀ (vs A B C : List α), B.length = vs.length → (vs.foldl (fun (p : Array α × Nat) v => (p.1.setIfInBounds p.2 v, p.2 + 1)) ((A ++ (B ++ C)).toArray, A.length)).1 = (A ++ (vs ++ C)).toArray
 | [], A, [], C, _ => rfl
 | [], A, b :: B, C, h => by simp at h
 | v :: vs, A, [], C, h => by simp at h
 | v :: vs, A, b :: B, C, h => by
  rw [List.foldl_cons]
  have e : (A ++ (b :: B ++ C)).toArray.setIfInBounds A.length v = ((A ++ [v]) ++ (B ++ C)).toArray := by
   rw [List.setIfInBounds_toArray, List.set_append_right _ _ (Nat.le_refl _), Nat.sub_self]
   simp
  rw [e]
  have h2 := foldl_set vs (A ++ [v]) B C (by simpa using h)
  rw [List.length_append, List.length_singleton] at h2
  rw [h2]
  simp
theorem setCells_blk {B : Nat} {ty : TypeId} : ∀ (vs : List Value) (o : Nat) (w : World) (c : Array Value), w.heap[B]? = some (.cells c ty (0, 0)) → ∃ c', (w.setCells B o vs).heap[B]? = some (.cells c' ty (0, 0)) ∧ c' = (vs.foldl (fun (p : Array Value × Nat) v => (p.1.setIfInBounds p.2 v, p.2 + 1)) (c, o)).1 := by
 intro vs
 induction vs with
 | nil => intro o w c h; exact ⟨c, h, rfl⟩
 | cons v vs ih =>
  intro o w c h
  exact ih (o + 1) _ _ (heap_setCell_same w B o _ _ v h)
theorem wpList_store_ps0 {ops : Array Oper} {rest : List Oper} {o : Oper} {a : Act} {w : World} {Q : Exit → Act → World → Prop} (X Y : Operand) (ho : o.op = .store 40 X Y) (hd : o.dst = none) (O : Nat) (u v x : XV) (hx : a.eval X = .pointer (some ⟨O, 0, none⟩)) (hy : a.eval Y = .agg (prC x)) (hb : PsvAt w O u v)
    (hw : Region.wanted o (yielded ops a.tmps) = true) (hh : ∀ w', PsvAt w' O x v → Ch (fun q => q = O) w w' → wpList Tryz.prog ops Q rest a w') : wpList Tryz.prog ops Q (o :: rest) a w := by
  refine wpList_step fun K hK => ?_
  rw [if_pos hw]
  refine wp_store_mid 40 X Y ho O 0 (prC x) hx hy (fun j hj => ⟨?_, hb.fz _⟩) Tryz.size_prv (by simp [prC, Value.oneCell']) (hK _ _ ?_)
  · rw [hb.cell, Array.getElem?_eq_getElem (by have h1 : j < 64 := hj; rw [psC_size]; omega)]
    rfl
  · rw [hd]
    refine hh _ ?_ (ch_setCells w O _ _)
    unfold PsvAt at hb ⊢
    obtain ⟨c', h1, h2⟩ := setCells_blk (prC x).toList 0 w _ hb
    rw [h1, h2]
    have e := foldl_set (prC x).toList [] (prC u).toList (prC v).toList rfl
    rw [List.nil_append, List.nil_append] at e
    have e2 : ((prC x).toList.foldl (fun (p : Array Value × Nat) v => (p.1.setIfInBounds p.2 v, p.2 + 1)) (psC u v, 0)).1 = psC x v := e
    rw [e2]
theorem wpList_store_ps1 {ops : Array Oper} {rest : List Oper} {o : Oper} {a : Act} {w : World} {Q : Exit → Act → World → Prop} (X Y : Operand) (ho : o.op = .store 40 X Y) (hd : o.dst = none) (O : Nat) (u v x : XV) (hx : a.eval X = .pointer (some ⟨O, 64, none⟩)) (hy : a.eval Y = .agg (prC x)) (hb : PsvAt w O u v)
    (hw : Region.wanted o (yielded ops a.tmps) = true) (hh : ∀ w', PsvAt w' O u x → Ch (fun q => q = O) w w' → wpList Tryz.prog ops Q rest a w') : wpList Tryz.prog ops Q (o :: rest) a w := by
  refine wpList_step fun K hK => ?_
  rw [if_pos hw]
  refine wp_store_mid 40 X Y ho O 64 (prC x) hx hy (fun j hj => ⟨?_, hb.fz _⟩) Tryz.size_prv (by simp [prC, Value.oneCell']) (hK _ _ ?_)
  · rw [hb.cell, Array.getElem?_eq_getElem (by have h1 : j < 64 := hj; rw [psC_size]; omega)]
    rfl
  · rw [hd]
    refine hh _ ?_ (ch_setCells w O _ _)
    unfold PsvAt at hb ⊢
    obtain ⟨c', h1, h2⟩ := setCells_blk (prC x).toList 64 w _ hb
    rw [h1, h2]
    have e := foldl_set (prC x).toList (prC u).toList (prC v).toList [] rfl
    rw [List.append_nil, List.append_nil] at e
    have e2 : ((prC x).toList.foldl (fun (p : Array Value × Nat) v => (p.1.setIfInBounds p.2 v, p.2 + 1)) (psC u v, 64)).1 = psC u x := e
    rw [e2]
theorem wpList_store_psv {ops : Array Oper} {rest : List Oper} {o : Oper} {a : Act} {w : World} {Q : Exit → Act → World → Prop} (x y : Operand) (ho : o.op = .store 49 x y) (hd : o.dst = none) (O : Nat) (u v u' v' : XV) (hx : a.eval x = .pointer (some ⟨O, 0, none⟩)) (hy : a.eval y = .agg (psC u' v')) (hb : PsvAt w O u v)
    (hw : Region.wanted o (yielded ops a.tmps) = true) (hh : ∀ w', PsvAt w' O u' v' → Ch (fun q => q = O) w w' → wpList Tryz.prog ops Q rest a w') : wpList Tryz.prog ops Q (o :: rest) a w := by
  refine wpList_step fun K hK => ?_
  rw [if_pos hw]
  refine wp_store_row 49 x y ho O (psC u' v') hx hy _ (psC u v) hb Tryz.size_psv (by rw [psC_size, psC_size]) (by simp [psC, prC, Value.oneCell']) (hK _ _ ?_)
  rw [hd]
  refine hh _ (setRow_heap w O _ _ _ _ hb) ⟨rfl, rfl, rfl, ?_, ?_⟩
  · simp [World.setRow]
  · intro k hk hne
    simp only [World.setRow]
    rw [Array.getElem?_modify, if_neg (fun e => hne e.symm)]
set_option maxRecDepth 100000 in
theorem wpList_alloc_psv {ops : Array Oper} {rest : List Oper} {o : Oper} {a : Act} {w : World} {Q : Exit → Act → World → Prop} (ho : o.op = .alloc 49) (hw : Region.wanted o (yielded ops a.tmps) = true)
    (h : wpList Tryz.prog ops Q rest (a.put o.dst (.pointer (some ⟨w.heap.size, 0, none⟩))) (w.alloc (.cells (psC pz0 pz0) 49))) : wpList Tryz.prog ops Q (o :: rest) a w := by
  refine wpList_step fun K hK => ?_
  rw [if_pos hw]
  have hrun : (execOp a.eval o).run Tryz.prog w = .ok (.value (.pointer (some ⟨w.heap.size, 0, none⟩))) (w.alloc (.cells (psC pz0 pz0) 49)) := by
   obtain ⟨dst, op, type, pos, after, guard⟩ := o
   simp only at ho
   subst ho
   simp only [execOp]
   go_simp
   rfl
  unfold Oper.wp
  rw [hrun]
  exact hK _ _ h
theorem run_psb (u : XV) (v : XV) (w : World) : (Instr.build 49 #[(0, .agg (prC u)), (1, .agg (prC v))]).run Tryz.prog w = .ok (.agg (psC u v)) w := by kernel_rfl
theorem wpList_psb {ops : Array Oper} {rest : List Oper} {o : Oper} {a_ : Act} {w : World} {Q : Exit → Act → World → Prop} (y0 y1 : Operand) (ho : o.op = .build 49 #[(0, y0), (1, y1)]) (u : XV) (v : XV) (h0 : a_.eval y0 = .agg (prC u)) (h1 : a_.eval y1 = .agg (prC v)) (hw : Region.wanted o (yielded ops a_.tmps) = true)
    (h : wpList Tryz.prog ops Q rest (a_.put o.dst (.agg (psC u v))) w) : wpList Tryz.prog ops Q (o :: rest) a_ w := by
  refine wpList_step fun K hK => ?_
  rw [if_pos hw]
  have hrun : (execOp a_.eval o).run Tryz.prog w = .ok (.value (.agg (psC u v))) w := by
   obtain ⟨dst, op, type, pos, after, guard⟩ := o
   simp only at ho
   subst ho
   simp only [execOp, Sem.run_bind, List.map_toArray, List.map_cons, List.map_nil, h0, h1, run_psb u v w, Result.andThen_ok]
   rfl
  unfold Oper.wp
  rw [hrun]
  exact hK _ _ h
end Go.Proofs.YtclpeepnngegaaaGreatDoor
