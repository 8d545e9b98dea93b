/-
  Lists1 Lists2 Lists3 Lists4 Lists5 Lists6 Again1 Again2 Again3, one behind the other.
-/
import Derived.Test.YtdinhgfkpjaipaaDoorKDkA
import Derived.Test.YtdinhgfkpjaipaaDoorMixH
import Derived.Test.YtdinhgfkpjaipaaDoorI4Clone
import Derived.Test.YtdinhgfkpjaipaaDoorKRb
import Derived.Test.YtdinhgfkpjaipaaDoorI4Start2
namespace Go.Proofs.YtdinhgfkpjaipaaDoor.Ll
open Go.RowKit

/-- an option's cells: its kind, no data -/
def opC (x : Int) : List Value := [.int .i64 x, .slice none 0 0]
/-- the cells of n such options -/
def opR (n : Nat) (x : Int) : List Value := (List.replicate n (opC x)).flatten
theorem opR_len (n : Nat) (x : Int) : (opR n x).length = n * 2 := by simp [opR, opC]
theorem opR_at (n : Nat) (x : Int) (k : Nat) (h : k < n) : (opR n x)[k * 2]? = some (.int .i64 x) ∧ (opR n x)[k * 2 + 1]? = some (.slice none 0 0) := by
  induction n generalizing k with
  | zero => omega
  | succ n ih =>
    have e : opR (n + 1) x = .int .i64 x :: .slice none 0 0 :: opR n x := by simp [opR, opC, List.replicate_succ]
    rw [e]
    match k with
    | 0 => exact ⟨rfl, rfl⟩
    | k + 1 =>
      rw [show (k + 1) * 2 = k * 2 + 1 + 1 by omega]
      simpa using ih k (by omega)
/-- a list that can be read, of one mark alone -/
def Rd2 (w : World) (a : Option Addr) (n : Nat) (x : Int) : Prop := n = 0 ∨ ∃ g, a = some ⟨g, 0, none⟩ ∧ ∀ k, k < n → w.cell? ⟨g, k * 2, none⟩ = some (.int .i64 x) ∧ w.cell? ⟨g, k * 2 + 1, none⟩ = some (.slice none 0 0)
theorem only_any (a : Option Addr) (n c : Nat) (x : Int) (w : World) (h : Rd2 w a n x) (hn : n ≤ 4611686018427387904) :
    Calls Tryd.prog 76 #[.slice a n c, .int .i64 x] w fun e w' => e = .returned (.bool true) ∧ w = w' := by
  have H : Hid _ := h
  clear h
  go_enter Tryd.func76, Tryd.ntmps76
  go_wp2
  go_loop [5] (fun ix => ∃ k : Nat, ix = .int .i64 k ∧ k ≤ n) (fun ix => n - (intOf ix).toNat)
  case atStart => exact ⟨0, rfl, Nat.zero_le _⟩
  case round =>
    obtain ⟨k, rfl, hk⟩ := hrel
    by_cases hlt : k < n
    · obtain ⟨g, rfl, hc⟩ : ∃ g, a = some ⟨g, 0, none⟩ ∧ ∀ k, k < n → w.cell? ⟨g, k * 2, none⟩ = some (.int .i64 x) ∧ w.cell? ⟨g, k * 2 + 1, none⟩ = some (.slice none 0 0) := by
        rcases H.out with h0 | h0
        · omega
        · exact h0
      obtain ⟨c0, c1⟩ := hc k hlt
      have k0 : (0 : Int) ≤ (k : Int) := by omega
      have k1 : (k : Int) < (n : Int) := by omega
      have k2 : ((k : Int)).toNat = k := by omega
      have wk : IntKind.i64.wrap ((k : Int) + 1) = (k : Int) + 1 := by rw [IntKind.wrap_i64]; omega
      have q : (x != x) = false := by simp
      clear hc
      go_wp2
      go_round
      case rel => exact ⟨k + 1, by go_num, by omega⟩
      case measure => simp [intOf]; omega
    · have hni : ¬ ((k : Int) < (n : Int)) := by omega
      clear hlt
      go_wp2
      go_ret
      exact ⟨rfl, rfl⟩
end Go.Proofs.YtdinhgfkpjaipaaDoor.Ll
namespace Go.Proofs.YtdinhgfkpjaipaaDoor.Ll
open Go.RowKit
open Bk (R news_at)

theorem infoOpts : (Tryd.prog.info? 25).map (fun i => (i.zero, i.size, i.bytes)) = some (some (.slice none 0 0), 1, 24) := by kernel_rfl
/-- an option that was handed out -/
structure OE where
  k : Int
  a : Option Addr
  n : Nat
  c : Nat
def OE.cs (o : OE) : List Value := [.int .i64 o.k, .slice o.a o.n o.c]
def osC (l : List OE) : List Value := l.flatMap OE.cs
theorem osC_len (l : List OE) : (osC l).length = l.length * 2 := by
  induction l with
  | nil => rfl
  | cons o l ih => simp only [osC, List.flatMap_cons, List.length_append] at ih ⊢; rw [ih]; simp [OE.cs]; omega
theorem osC_one (l : List OE) : ∀ u ∈ osC l, u.oneCell' = true := by
  intro u hu
  simp only [osC, List.mem_flatMap, OE.cs, List.mem_cons, List.not_mem_nil, or_false] at hu
  obtain ⟨o, _, rfl | rfl⟩ := hu <;> rfl
theorem osC_at (l : List OE) (i : Nat) (o : OE) (h : l[i]? = some o) : (osC l)[i * 2]? = some (.int .i64 o.k) ∧ (osC l)[i * 2 + 1]? = some (.slice o.a o.n o.c) := by
  induction l generalizing i with
  | nil => simp at h
  | cons x l ih =>
    have e : osC (x :: l) = .int .i64 x.k :: .slice x.a x.n x.c :: osC l := by simp [osC, OE.cs]
    rw [e]
    match i with
    | 0 => simp at h; subst h; exact ⟨rfl, rfl⟩
    | i + 1 =>
      rw [show (i + 1) * 2 = i * 2 + 1 + 1 by omega]
      simpa using ih i (by simpa using h)
/-- a list of options of the call's own -/
abbrev OwnO (w : World) (B : Nat) (v : Value) (n : Nat) (l : List OE) : Prop := w.ownsRow B 43 2 v n (osC l)
theorem owns_pos' {w : World} {base K : Nat} {e : TypeId} {v : Value} {n : Nat} {xs : List Value} (h : w.ownsRow base e K v n xs) (hn : 0 < n) : ∃ g c, v = .slice (some ⟨g, 0, none⟩) n c := by
  rcases h.2 with ⟨rfl, h0⟩ | ⟨g, cap, cur, rfl, _⟩
  · omega
  · exact ⟨g, cap, rfl⟩
/-- a list that was handed out, and what it held -/
structure BE where
  a : Option Addr
  c : Nat
  wa : Option Addr
  wc : Nat
  l : List OE
def BE.v (e : BE) : Value := .slice e.a e.l.length e.c
def BE.u (e : BE) : Value := .slice e.wa e.l.length e.wc
def no : BE := ⟨none, 0, none, 0, []⟩
/-- the book in memory -/
structure ListsAt (w : World) (B K : Nat) (vL vW : Value) (E : List BE) : Prop where
  c0 : w.cell? ⟨K, 0, none⟩ = some vL
  c1 : w.cell? ⟨K, 1, none⟩ = some vW
  fz : ∀ j, w.frozen? ⟨K, j, none⟩ = false
  oL : w.ownsRow B 25 1 vL E.length (E.map BE.v)
  oW : w.ownsRow B 25 1 vW E.length (E.map BE.u)
  own : ∀ e ∈ E, OwnO w B e.v e.l.length e.l
  ownW : ∀ e ∈ E, OwnO w B e.u e.l.length e.l
  dis : (E.map BE.v).Pairwise R
  b256 : ∀ e ∈ E, e.l.length ≤ 65535
  nK : ∀ e ∈ E, e.v.ownBlock ≠ some K ∧ e.u.ownBlock ≠ some K
  nL : vL.ownBlock ≠ some K ∧ vW.ownBlock ≠ some K
  LW : R vL vW
  hK : B ≤ K
/-- its blocks -/
def bB (K : Nat) (vL vW : Value) (E : List BE) (q : Nat) : Prop := q = K ∨ vL.ownBlock = some q ∨ vW.ownBlock = some q ∨ ∃ e ∈ E, e.v.ownBlock = some q ∨ e.u.ownBlock = some q
variable {w w' : World} {B K : Nat} {vL vW : Value} {E : List BE}
theorem ListsAt.ch {T : Nat → Prop} (h : ListsAt w B K vL vW E) (k : Ch T w w') (hT : ∀ q, bB K vL vW E q → ¬ T q) : ListsAt w' B K vL vW E :=
  ⟨k.cell h.c0 (hT K (.inl rfl)), k.cell h.c1 (hT K (.inl rfl)), fun j => (k.frozen (p := ⟨K, j, none⟩) (World.block_lt_of_cell? w ⟨K, 0, none⟩ h.c0) (hT K (.inl rfl))).trans (h.fz j), k.owns h.oL (fun g hg => hT g (.inr (.inl hg))), k.owns h.oW (fun g hg => hT g (.inr (.inr (.inl hg)))),
    fun e he => k.owns (h.own e he) (fun g hg => hT g (.inr (.inr (.inr ⟨e, he, .inl hg⟩)))), fun e he => k.owns (h.ownW e he) (fun g hg => hT g (.inr (.inr (.inr ⟨e, he, .inr hg⟩)))), h.dis, h.b256, h.nK, h.nL, h.LW, h.hK⟩
theorem ListsAt.below (h : ListsAt w B K vL vW E) (k : Below w.heap.size w w') : ListsAt w' B K vL vW E := h.ch (Ch.ofBelow (S := fun _ => False) k) (fun _ _ => id)
theorem ListsAt.lt (h : ListsAt w B K vL vW E) (q : Nat) (hq : bB K vL vW E q) : B ≤ q ∧ q < w.heap.size := by
  rcases hq with rfl | hq | hq | ⟨e, he, hq | hq⟩
  · exact ⟨h.hK, World.block_lt_of_cell? w ⟨q, 0, none⟩ h.c0⟩
  · exact h.oL.lt q hq
  · exact h.oW.lt q hq
  · exact (h.own e he).lt q hq
  · exact (h.ownW e he).lt q hq
theorem ListsAt.at (h : ListsAt w B K vL vW E) (i : Nat) (hi : i < E.length) : ∃ gl cl gw cw, vL = .slice (some ⟨gl, 0, none⟩) E.length cl ∧ vW = .slice (some ⟨gw, 0, none⟩) E.length cw ∧ ∀ x, Below w.heap.size w x → x.cell? ⟨gl, i, none⟩ = some (E[i].v) ∧ x.cell? ⟨gw, i, none⟩ = some (E[i].u) := by
  obtain ⟨gl, cl, rfl⟩ := owns_pos' h.oL (by omega)
  obtain ⟨gw, cw, rfl⟩ := owns_pos' h.oW (by omega)
  refine ⟨gl, cl, gw, cw, rfl, rfl, fun x hx => ?_⟩
  have h' := h.below hx
  refine ⟨?_, ?_⟩
  · rw [h'.oL.cellAt i (by omega)]; simp [hi]
  · rw [h'.oW.cellAt i (by omega)]; simp [hi]
theorem ListsAt.len (h : ListsAt w B K vL vW E) : ∃ al cl aw cw, vL = .slice al E.length cl ∧ vW = .slice aw E.length cw := by
  obtain ⟨al, cl, e1⟩ := owns_shape h.oL
  obtain ⟨aw, cw, e2⟩ := owns_shape h.oW
  exact ⟨al, cl, aw, cw, e1, e2⟩
end Go.Proofs.YtdinhgfkpjaipaaDoor.Ll
namespace Go.Proofs.YtdinhgfkpjaipaaDoor.Ll
open Go.RowKit
open Bk (R news_at news1' ch_grown)

theorem kind' {K : Nat} {w : World} {B : Nat} {e : TypeId} {v : Value} {n : Nat} {xs : List Value} (h : w.ownsRow B e K v n xs) : ∀ g, v.ownBlock = some g → ∃ c, w.heap[g]? = some (.cells c e (0, 0)) := by
  intro g hg
  rcases h.2 with ⟨rfl, _⟩ | ⟨g', cap, cur, rfl, _, hh, _⟩
  · simp [Value.ownBlock] at hg
  · simp [Value.ownBlock] at hg; subst hg; exact ⟨cur, hh⟩
theorem apart' {w : World} {B B' K K' : Nat} {e e' : TypeId} {v v' : Value} {n n' : Nat} {xs xs' : List Value} (h : w.ownsRow B e K v n xs) (h' : w.ownsRow B' e' K' v' n' xs') (hne : e ≠ e') : v.ownBlock = none ∨ v.ownBlock ≠ v'.ownBlock := by
  cases hv : v.ownBlock with
  | none => exact .inl rfl
  | some g =>
    refine .inr (fun hc => hne ?_)
    obtain ⟨c, hc1⟩ := kind' h g hv
    obtain ⟨c', hc2⟩ := kind' h' g hc.symm
    rw [hc1] at hc2
    simp at hc2
    exact hc2.2
/-- append of a list of options that may be nil -/
theorem append_all {P : Program} {w : World} {ops : Array Oper} {rest : List Oper} {o : Oper} {a : Act} {Q : Exit → Act → World → Prop} (hgd : o.guard = none) (s x : Operand) (t : TypeId)
    (ho : o.op = .call { callee := .builtin .append, args := #[s, x], argTypes := #[t, t] })
    (base : Nat) (e : TypeId) (i : TypeInfo) (z : Value) (bytes : Nat) (ht : P.underlying t = some (.slice e)) (hi : P.info? e = some i) (hz : i.zero = some z)
    (hsize : i.size = 2) (hby : i.bytes = bytes) (hzs : z.cells.size = 2)
    (v : Value) (n : Nat) (xs : List Value) (hs : a.eval s = v) (hown : w.ownsRow base e 2 v n xs)
    (m c : Nat) (ad : Option Addr) (l : List OE) (hx : a.eval x = .slice ad m c) (hm : l.length = m) {B : Nat} {e' : TypeId} (hsrc : w.ownsRow B e' 2 (.slice ad l.length c) l.length (osC l))
    (h63 : n + m ≤ maxLen) (hbytes : (n + m) * bytes ≤ 140737488355328) (hbase : base ≤ w.heap.size)
    (h : ∀ v' w', w'.ownsRow base e 2 v' (n + m) (xs ++ osC l) → (∀ q, v'.ownBlock = some q → v.ownBlock = some q ∨ w.heap.size ≤ q) → w.grownBy w' v.ownBlock → wpList P ops Q rest (a.put o.dst v') w') : wpList P ops Q (o :: rest) a w := by
  rcases hsrc.2 with ⟨hv, h0⟩ | ⟨g, cap, cur, hv, _⟩
  · have e1 := (Value.slice.inj hv).1
    have l0 : l = [] := List.eq_nil_of_length_eq_zero h0
    subst e1 l0
    have hm0 : m = 0 := by simpa using hm.symm
    subst hm0
    refine wpList_plain hgd fun K hK => ?_
    have hrun := run_append_nil (P := P) (w := w) base t o.type e i 2 ht hi v n c xs hown
    unfold Oper.wp
    simp [execOp, ho, resolve, invoke, builtin, hs, hx, hrun, Result.andThen]
    exact hK _ _ (h v w (by simpa [osC] using hown) (fun q hq => .inl hq) ⟨rfl, rfl, rfl, Nat.le_refl _, fun _ _ _ => rfl⟩)
  · have e1 := (Value.slice.inj hv).1
    subst e1
    refine Dk.append_splitK 2 (by decide) hgd s x t ho base e i z bytes ht hi hz hsize hby hzs v n xs hs hown ⟨g, 0, none⟩ m c (osC l) hx (by rw [osC_len, hm]) (fun j u hu => ?_) (osC_one l) h63 hbytes hbase (fun v' w' h1 h2 => ?_)
    · have hj : j < (osC l).length := (List.getElem?_eq_some_iff.1 hu).1
      rw [osC_len] at hj
      rw [Addr.add_lit, Nat.zero_add, hsrc.cellAt j hj]
      exact hu
    · rcases h2 with ⟨g1, g2⟩ | ⟨g1, g2, g3⟩
      · exact h v' w' h1 (fun q hq => .inr (g2 q hq)) ⟨g1.os, g1.tape, g1.output, g1.size, fun j hj _ => g1.block j hj (by simp)⟩
      · exact h v' w' h1 (fun q hq => .inl (by rw [← g2]; exact hq)) g1
/-- what Keep leaves -/
structure Kept (w w' : World) (B K : Nat) (vL vW vL' vW' : Value) (E : List BE) (e : BE) : Prop where
  bk : ListsAt w' B K vL' vW' (E ++ [e])
  ch : Ch (bB K vL vW E) w w'
  new : ∀ q, bB K vL' vW' (E ++ [e]) q → bB K vL vW E q ∨ e.v.ownBlock = some q ∨ w.heap.size ≤ q
theorem keep_fin {w w1 w2 w3 w4 : World} {B K : Nat} {vL vW vL' vW' : Value} {E : List BE} {a wa : Option Addr} {c wc : Nat} {l : List OE} (h : ListsAt w B K vL vW E) (hB : B ≤ w.heap.size) (ho : OwnO w B (.slice a l.length c) l.length l) (h256 : l.length ≤ 65535) (hf : ∀ q, (Value.slice a l.length c).ownBlock = some q → ¬ bB K vL vW E q)
    (hb1 : Below w.heap.size w w1) (ho1 : w1.ownsRow w.heap.size 43 2 (.slice wa l.length wc) l.length (osC l)) (hL2 : w2.ownsRow B 25 1 vL' (E.length + 1) (E.map BE.v ++ [.slice a l.length c])) (k2 : Ch (fun q => vL.ownBlock = some q) w1 w2) (q2 : ∀ q, vL'.ownBlock = some q → vL.ownBlock = some q ∨ w1.heap.size ≤ q) (k3 : Ch (fun q => q = K) w2 w3)
    (hW4 : w4.ownsRow B 25 1 vW' (E.length + 1) (E.map BE.u ++ [.slice wa l.length wc])) (k4 : Ch (fun q => vW.ownBlock = some q) w3 w4) (q4 : ∀ q, vW'.ownBlock = some q → vW.ownBlock = some q ∨ w3.heap.size ≤ q) (c04 : w4.cell? ⟨K, 0, none⟩ = some vL') (fz4 : ∀ j, w4.frozen? ⟨K, j, none⟩ = false) (c14 : w4.cell? ⟨K, 1, none⟩ = some vW) :
    Kept w (w4.setCell ⟨K, 1, none⟩ vW') B K vL vW vL' vW' E ⟨a, c, wa, wc, l⟩ := by
  have k5 : Ch (fun q => q = K) w4 (w4.setCell ⟨K, 1, none⟩ vW') := (Ch.refl _ w4).set _ _ rfl
  have s1 := hb1.size
  have s2 := k2.size
  have s3 := k3.size
  have s4 := k4.size
  have KL := (h.lt K (.inl rfl)).2
  have bL : ∀ q, vL.ownBlock = some q → q < w.heap.size := fun q hq => (h.oL.lt q hq).2
  have bW : ∀ q, vW.ownBlock = some q → q < w.heap.size := fun q hq => (h.oW.lt q hq).2
  have RLW : ∀ q, vL.ownBlock = some q → ¬ vW.ownBlock = some q := fun q h1 h2 => by
    rcases h.LW with e | e
    · rw [e] at h1; cases h1
    · exact e (by rw [h1, h2])
  have kA : Ch (fun q => q = K ∨ vL.ownBlock = some q ∨ vW.ownBlock = some q) w (w4.setCell ⟨K, 1, none⟩ vW') :=
    ((((Ch.ofBelow (S := fun q => q = K ∨ vL.ownBlock = some q ∨ vW.ownBlock = some q) hb1).trans k2 (fun q _ e => .inr (.inl e))).trans k3 (fun q _ e => .inl e)).trans k4 (fun q _ e => .inr (.inr e))).trans k5 (fun q _ e => .inl e)
  have noL : ∀ {x : World} {bs m : Nat} {v : Value} {ys : List Value}, x.ownsRow bs 43 2 v m ys → x = w → ∀ q, v.ownBlock = some q → ¬ (vL.ownBlock = some q ∨ vW.ownBlock = some q) := by
    intro x bs m v ys hx e q hq hv
    subst e
    rcases hv with hv | hv
    · rcases apart' hx h.oL (by decide) with e | e
      · rw [e] at hq; cases hq
      · exact e (by rw [hq, hv])
    · rcases apart' hx h.oW (by decide) with e | e
      · rw [e] at hq; cases hq
      · exact e (by rw [hq, hv])
  have nL' : ∀ q, vL'.ownBlock = some q → q ≠ K := fun q hq e => by
    subst e
    rcases q2 q hq with g | g
    · exact h.nL.1 g
    · omega
  have nW' : ∀ q, vW'.ownBlock = some q → q ≠ K := fun q hq e => by
    subst e
    rcases q4 q hq with g | g
    · exact h.nL.2 g
    · omega
  have oL5 : (w4.setCell ⟨K, 1, none⟩ vW').ownsRow B 25 1 vL' (E.length + 1) (E.map BE.v ++ [.slice a l.length c]) :=
    k5.owns (k4.owns (k3.owns hL2 (fun q hq => nL' q hq)) (fun q hq e => by
      rcases q2 q hq with g | g
      · exact RLW q g e
      · have := bW q e; omega)) (fun q hq => nL' q hq)
  have fresh : ∀ q, (Value.slice wa l.length wc).ownBlock = some q → w.heap.size ≤ q := fun q hq => (ho1.lt q hq).1
  have oWn : (w4.setCell ⟨K, 1, none⟩ vW').ownsRow w.heap.size 43 2 (.slice wa l.length wc) l.length (osC l) := by
    have kB : Ch (fun q => q = K ∨ vL.ownBlock = some q ∨ vW.ownBlock = some q) w1 (w4.setCell ⟨K, 1, none⟩ vW') :=
      (((k2.mono (fun q _ e => .inr (.inl e))).trans k3 (fun q _ e => .inl e)).trans k4 (fun q _ e => .inr (.inr e))).trans k5 (fun q _ e => .inl e)
    refine kB.owns ho1 (fun q hq e => ?_)
    have := fresh q hq
    rcases e with e | e | e
    · omega
    · have := bL q e; omega
    · have := bW q e; omega
  have keepV : ∀ {m : Nat} {v : Value} {ys : List Value}, w.ownsRow B 43 2 v m ys → v.ownBlock ≠ some K → (w4.setCell ⟨K, 1, none⟩ vW').ownsRow B 43 2 v m ys := by
    intro m v ys hx hn
    refine kA.owns hx (fun q hq e => ?_)
    rcases e with e | e
    · subst e; exact hn hq
    · exact noL hx rfl q hq e
  have hnew : (Value.slice a l.length c).ownBlock ≠ some K := fun e => hf K e (.inl rfl)
  refine ⟨⟨?_, ?_, ?_, ?_, ?_, ?_, ?_, ?_, ?_, ?_, ?_, ?_, h.hK⟩, kA.mono (fun q _ e => ?_), ?_⟩
  · rw [World.cell?_setCell_other _ _ _ _ (by simp)]; exact c04
  · exact World.cell?_setCell_same _ _ _ c14
  · intro j; rw [World.frozen?_setCell]; exact fz4 j
  · rw [List.length_append, List.map_append]; exact oL5
  · rw [List.length_append, List.map_append]; exact k5.owns hW4 (fun q hq => nW' q hq)
  · intro e he
    rcases List.mem_append.1 he with he | he
    · exact keepV (h.own e he) (h.nK e he).1
    · have e3 : e = ⟨a, c, wa, wc, l⟩ := by simpa using he
      subst e3
      exact keepV ho hnew
  · intro e he
    rcases List.mem_append.1 he with he | he
    · exact keepV (h.ownW e he) (h.nK e he).2
    · have e3 : e = ⟨a, c, wa, wc, l⟩ := by simpa using he
      subst e3
      exact owns_mono oWn hB
  · rw [List.map_append, List.pairwise_append]
    refine ⟨h.dis, by simp, fun x hx y hy => ?_⟩
    obtain ⟨e, he, rfl⟩ := List.mem_map.1 hx
    have e3 : y = Value.slice a l.length c := by simpa [BE.v] using hy
    subst e3
    cases hv : e.v.ownBlock with
    | none => exact .inl hv
    | some q =>
      refine .inr (fun e4 => ?_)
      rw [hv] at e4
      exact hf q e4.symm (.inr (.inr (.inr ⟨e, he, .inl hv⟩)))
  · intro e he
    rcases List.mem_append.1 he with he | he
    · exact h.b256 e he
    · have e3 : e = ⟨a, c, wa, wc, l⟩ := by simpa using he
      subst e3
      exact h256
  · intro e he
    rcases List.mem_append.1 he with he | he
    · exact h.nK e he
    · have e3 : e = ⟨a, c, wa, wc, l⟩ := by simpa using he
      subst e3
      exact ⟨hnew, fun e4 => by have := fresh K e4; omega⟩
  · exact ⟨fun e => nL' K e rfl, fun e => nW' K e rfl⟩
  · cases hv : vL'.ownBlock with
    | none => exact .inl hv
    | some q =>
      refine .inr (fun e4 => ?_)
      rw [hv] at e4
      have hq4 := hL2.lt q hv
      rcases q2 q hv with g | g
      · rcases q4 q e4.symm with g' | g'
        · exact RLW q g g'
        · have := bL q g; omega
      · rcases q4 q e4.symm with g' | g'
        · have := bW q g'; omega
        · omega
  · rcases e with e | e | e
    · exact .inl e
    · exact .inr (.inl e)
    · exact .inr (.inr (.inl e))
  · rintro q (rfl | hq | hq | ⟨e, he, hq⟩)
    · exact .inl (.inl rfl)
    · rcases q2 q hq with g | g
      · exact .inl (.inr (.inl g))
      · exact .inr (.inr (by omega))
    · rcases q4 q hq with g | g
      · exact .inl (.inr (.inr (.inl g)))
      · exact .inr (.inr (by omega))
    · rcases List.mem_append.1 he with he | he
      · exact .inl (.inr (.inr (.inr ⟨e, he, hq⟩)))
      · have e3 : e = ⟨a, c, wa, wc, l⟩ := by simpa using he
        subst e3
        rcases hq with hq | hq
        · exact .inr (.inl hq)
        · exact .inr (.inr (fresh q hq))
set_option maxRecDepth 100000 in
set_option maxHeartbeats 3200000 in
theorem keep_any (w : World) (B K : Nat) (vL vW : Value) (E : List BE) (h : ListsAt w B K vL vW E) (hE : E.length ≤ 1000000) (hB : B ≤ w.heap.size) (a : Option Addr) (c : Nat) (l : List OE) (ho : OwnO w B (.slice a l.length c) l.length l) (h256 : l.length ≤ 65535) (hf : ∀ q, (Value.slice a l.length c).ownBlock = some q → ¬ bB K vL vW E q) :
    Calls Tryd.prog 42 #[.pointer (some ⟨K, 0, none⟩), .slice a l.length c] w fun e w' => e = .returned (.tuple #[]) ∧ ∃ vL' vW' wa wc, Kept w w' B K vL vW vL' vW' E ⟨a, c, wa, wc, l⟩ := by
  obtain ⟨i0, hi, hz0, hz1, hz2⟩ := info_parts Tryd.infoOpt
  obtain ⟨j0, hj, hy0, hy1, hy2⟩ := info_parts infoOpts
  obtain ⟨al, cl, aw, cw, e1, e2⟩ := h.len
  subst e1 e2
  have HB : Hid _ := h
  have HO : Hid (OwnO w B (.slice a l.length c) l.length l) := ho
  have HF : Hid (∀ q, (Value.slice a l.length c).ownBlock = some q → ¬ bB K (.slice al E.length cl) (.slice aw E.length cw) E q) := hf
  have h65 := h256
  have H2 : Hid _ := h256
  obtain ⟨n, hn⟩ : ∃ n, n = l.length := ⟨_, rfl⟩
  have HN : Hid (l.length = n) := hn.symm
  rw [← hn] at h65 ⊢
  obtain ⟨N, hNN⟩ : ∃ N, N = E.length := ⟨_, rfl⟩
  have HNN : Hid (E.length = N) := hNN.symm
  rw [← hNN] at hE
  have HNL : Hid ((osC l).length = n * 2) := by show _ = _; rw [osC_len, hn]
  clear h ho hf h256 hn hNN
  go_enter Tryd.func42, Tryd.ntmps42
  go_wp2_with (first | (at_builtin; refine append_all rfl (.tmp 5) (.tmp 6) 25 rfl w.heap.size 43 i0 (.agg #[.int .i64 0, .slice none 0 0]) 32 Tryd.underlying25 hi hz0 hz1 hz2 rfl (.slice none 0 0) 0 [] rfl (World.ownsRow_nil _ _ _ _) n c a l rfl HN.out HO.out (by unfold maxLen; omega) (by omega) (Nat.le_refl _) ?_))

  intro u1 w1 ho1 _ hg1
  have hb1 : Below w.heap.size w w1 := (Below.refl _ _).grown hg1 (Nat.le_refl _) (by intro k hk; simp [Value.ownBlock] at hk)
  try simp only [Nat.zero_add, List.nil_append] at ho1
  obtain ⟨wa, wc, rfl⟩ := owns_shape ho1
  have bk1 := HB.out.below hb1
  have c01 : w1.cell? ⟨K, 0, none⟩ = some (.slice al N cl) := by rw [← HNN.out]; exact bk1.c0
  have f01 := bk1.fz 0
  have ol1 : (w1.alloc (.cells #[.slice a n c] 25)).ownsRow B 25 1 (.slice al N cl) N (E.map BE.v) := by rw [← HNN.out]; exact bk1.oL.alloc _
  have HB1 : Hid _ := hb1
  have HK1 : Hid _ := bk1
  have HO1 : Hid (w1.ownsRow w.heap.size 43 2 (.slice wa n wc) n (osC l)) := ho1
  have hs1 := hb1.size
  clear ho1 hg1 hb1 bk1
  go_wp2_with (first | (at_builtin; refine Dk.append_splitK 1 (by decide) rfl (.tmp 12) (.tmp 14) 62 rfl B 25 j0 (.slice none 0 0) 24 Tryd.underlying62 hj hy0 hy1 hy2 rfl (.slice al N cl) N (E.map BE.v) rfl ol1 ⟨w1.heap.size, 0, none⟩ 1 1 [.slice a n c] rfl rfl (news1' _ _ _) (by intro u hu; simp at hu; subst hu; rfl) (by unfold maxLen; omega) (by omega) (by simp; omega) ?_))
  intro vL' w2 hoL2 hg2
  obtain ⟨k2, q2⟩ := ch_grown hg2
  obtain ⟨al', cl', hvL⟩ := owns_shape hoL2
  subst hvL
  have HK2 : Hid _ := k2
  have HQ2 : Hid _ := q2
  have HL2 : Hid _ := hoL2
  have nKL : Hid (¬ (Value.slice al N cl).ownBlock = some K) := by rw [← HNN.out]; exact HB.out.nL.1
  have c02 : w2.cell? ⟨K, 0, none⟩ = some (.slice al N cl) := k2.cell c01 nKL.out
  have f02 : w2.frozen? ⟨K, 0, none⟩ = false := (k2.frozen (p := ⟨K, 0, none⟩) (World.block_lt_of_cell? w1 _ c01) nKL.out).trans f01
  have c12 : w2.cell? ⟨K, 1, none⟩ = some (.slice aw N cw) := k2.cell (by rw [← HNN.out]; exact HK1.out.c1) nKL.out
  have f12 : w2.frozen? ⟨K, 1, none⟩ = false := (k2.frozen (p := ⟨K, 1, none⟩) (show K < w1.heap.size from World.block_lt_of_cell? w1 ⟨K, 0, none⟩ c01) nKL.out).trans (HK1.out.fz 1)
  obtain ⟨w3, hw3⟩ : ∃ w3, w3 = w2.setCell ⟨K, 0, none⟩ (.slice al' (N + 1) cl') := ⟨_, rfl⟩
  have k3 : Ch (fun q => q = K) w2 w3 := by rw [hw3]; exact (Ch.refl _ w2).set _ _ rfl
  have HK3 : Hid _ := k3
  have oW3 : w3.ownsRow B 25 1 (.slice aw N cw) N (E.map BE.u) := by
    have h1 := HK1.out.oW
    rw [HNN.out] at h1
    have h2 := k2.owns h1 (fun q hq e => by
      have hr := HB.out.LW
      rw [HNN.out] at hr
      rcases hr with hr | hr
      · rw [hr] at e; cases e
      · exact hr (by rw [e, hq]))
    exact k3.owns h2 (fun q hq e => by have e' : q = K := e; subst e'; have := HB.out.nL.2; rw [HNN.out] at this; exact this hq)
  have ow3 : (w3.alloc (.cells #[.slice wa n wc] 25)).ownsRow B 25 1 (.slice aw N cw) N (E.map BE.u) := oW3.alloc _
  have hsz3 : B ≤ w3.heap.size := by have := k2.size; have := k3.size; omega
  have c13 : w3.cell? ⟨K, 1, none⟩ = some (.slice aw N cw) := by rw [hw3, World.cell?_setCell_other _ _ _ _ (by simp)]; exact c12
  have f13 : w3.frozen? ⟨K, 1, none⟩ = false := by rw [hw3, World.frozen?_setCell]; exact f12
  have c03 : w3.cell? ⟨K, 0, none⟩ = some (.slice al' (N + 1) cl') := by rw [hw3]; exact World.cell?_setCell_same _ _ _ c02
  have fz3 : ∀ j, w3.frozen? ⟨K, j, none⟩ = false := fun j => by
    rw [hw3, World.frozen?_setCell]
    exact (HK2.out.frozen (p := ⟨K, j, none⟩) (show K < w1.heap.size from World.block_lt_of_cell? w1 ⟨K, 0, none⟩ c01) nKL.out).trans (HK1.out.fz j)
  have HC3 : Hid (w3.cell? ⟨K, 0, none⟩ = some (.slice al' (N + 1) cl') ∧ ∀ j, w3.frozen? ⟨K, j, none⟩ = false) := ⟨c03, fz3⟩
  have HW3 : Hid (w2.setCell ⟨K, 0, none⟩ (.slice al' (N + 1) cl') = w3) := hw3.symm
  clear hoL2 hg2 k2 q2 c01 f01 ol1 oW3 k3 c12 f12 hw3 c03 fz3
  go_upto_region 3 with fail
  rw [HW3.out]
  go_wp2_with (first | (at_builtin; refine Dk.append_splitK 1 (by decide) rfl (.tmp 22) (.tmp 24) 62 rfl B 25 j0 (.slice none 0 0) 24 Tryd.underlying62 hj hy0 hy1 hy2 rfl (.slice aw N cw) N (E.map BE.u) rfl ow3 ⟨w3.heap.size, 0, none⟩ 1 1 [.slice wa n wc] rfl rfl (news1' _ _ _) (by intro u hu; simp at hu; subst hu; rfl) (by unfold maxLen; omega) (by omega) (by simp; omega) ?_))
  intro vW' w4 hoW4 hg4
  obtain ⟨k4, q4⟩ := ch_grown hg4
  obtain ⟨aw', cw', hvW⟩ := owns_shape hoW4
  subst hvW
  have nKW : Hid (¬ (Value.slice aw N cw).ownBlock = some K) := by rw [← HNN.out]; exact HB.out.nL.2
  have c14 : w4.cell? ⟨K, 1, none⟩ = some (.slice aw N cw) := k4.cell c13 nKW.out
  have f14 : w4.frozen? ⟨K, 1, none⟩ = false := (k4.frozen (p := ⟨K, 1, none⟩) (World.block_lt_of_cell? w3 _ c13) nKW.out).trans f13
  have c04 : w4.cell? ⟨K, 0, none⟩ = some (.slice al' (N + 1) cl') := k4.cell HC3.out.1 nKW.out
  have fz4 : ∀ j, w4.frozen? ⟨K, j, none⟩ = false := fun j => (k4.frozen (p := ⟨K, j, none⟩) (show K < w3.heap.size from World.block_lt_of_cell? w3 ⟨K, 0, none⟩ HC3.out.1) nKW.out).trans (HC3.out.2 j)
  have HC4 : Hid (w4.cell? ⟨K, 0, none⟩ = some (.slice al' (N + 1) cl') ∧ ∀ j, w4.frozen? ⟨K, j, none⟩ = false) := ⟨c04, fz4⟩
  have HK4 : Hid _ := k4
  have HQ4 : Hid _ := q4
  have HW4 : Hid _ := hoW4
  have C14 : Hid _ := c14
  clear hg4 k4 q4 hoW4 ow3 c13 f13 c04 fz4 hsz3
  go_wp2
  go_end0
  refine ⟨rfl, .slice al' (N + 1) cl', .slice aw' (N + 1) cw', wa, wc, ?_⟩
  obtain rfl := HNN.out
  obtain rfl := HN.out
  exact keep_fin HB.out hB HO.out H2.out HF.out HB1.out HO1.out HL2.out HK2.out HQ2.out HK3.out HW4.out HK4.out HQ4.out HC4.out.1 HC4.out.2 C14.out
end Go.Proofs.YtdinhgfkpjaipaaDoor.Ll
namespace Go.Proofs.YtdinhgfkpjaipaaDoor.Ll
open Go.RowKit

theorem yields_lists {ops : Array Oper} {o : Oper} {a : Act} {S : World → Prop} (x : Operand) (ho : o.op = .load 62 x) (b off : Nat) (u : Value) (hx : a.eval x = .pointer (some ⟨b, off, none⟩)) (hw : Region.wanted o (yielded ops a.tmps) = true) (hS : ∀ w, S w → w.cell? ⟨b, off, none⟩ = some u) : YieldsIf Tryd.prog ops S o u a := by
  refine .inl ⟨hw, fun w hb => ?_⟩
  have hc := hS w hb
  have hu := Tryd.underlying62
  obtain ⟨dst, op, type, pos, after, guard⟩ := o
  simp only at ho
  subst ho
  simp only [execOp, Sem.run_bind, Sem.run_pure]
  rw [hx]
  simp [Instr.loadAt, go_sem, hc]
theorem yields_opts {ops : Array Oper} {o : Oper} {a : Act} {S : World → Prop} (x : Operand) (ho : o.op = .load 25 x) (b off : Nat) (u : Value) (hx : a.eval x = .pointer (some ⟨b, off, none⟩)) (hw : Region.wanted o (yielded ops a.tmps) = true) (hS : ∀ w, S w → w.cell? ⟨b, off, none⟩ = some u) : YieldsIf Tryd.prog ops S o u a := by
  refine .inl ⟨hw, fun w hb => ?_⟩
  have hc := hS w hb
  have hu := Tryd.underlying25
  obtain ⟨dst, op, type, pos, after, guard⟩ := o
  simp only at ho
  subst ho
  simp only [execOp, Sem.run_bind, Sem.run_pure]
  rw [hx]
  simp [Instr.loadAt, go_sem, hc]
theorem OwnO.below {A C : World} {B : Nat} {v : Value} {n : Nat} {l : List OE} (h : OwnO A B v n l) (hB : Below A.heap.size A C) : OwnO C B v n l :=
  h.kept (Bk.below_grown hB none) (by cases hv : v.ownBlock <;> simp)
set_option maxRecDepth 100000 in
set_option maxHeartbeats 3200000 in
theorem untouched_any (w : World) (B K : Nat) (vL vW : Value) (E : List BE) (h : ListsAt w B K vL vW E) (hE : E.length ≤ 1000000) :
    Calls Tryd.prog 45 #[.pointer (some ⟨K, 0, none⟩)] w fun e w' => e = .returned (.bool true) ∧ Below w.heap.size w w' := by
  have HB : Hid _ := h
  obtain ⟨al, cl, aw, cw, e1, e2⟩ := h.len
  have c0 := h.c0
  rw [e1] at c0
  have HC : Hid (∀ x, Below w.heap.size w x → x.cell? ⟨K, 0, none⟩ = some (.slice al E.length cl) ∧ x.cell? ⟨K, 1, none⟩ = some (.slice aw E.length cw)) := fun x hx => ⟨by rw [← e1]; exact (h.below hx).c0, by rw [← e2]; exact (h.below hx).c1⟩
  have HE : Hid (vL = .slice al E.length cl ∧ vW = .slice aw E.length cw) := ⟨e1, e2⟩
  obtain ⟨N, hN⟩ : ∃ N, N = E.length := ⟨_, rfl⟩
  have HN : Hid (E.length = N) := hN.symm
  rw [← hN] at c0 hE HC HE
  clear h e1 e2 hN
  go_enter Tryd.func45, Tryd.ntmps45
  go_wp2
  go_loopw [3] (fun ix wr => ∃ k : Nat, k ≤ N ∧ ix = .int .i64 k ∧ Below w.heap.size w wr) (fun ix _ => N - (intOf ix).toNat)
  case atStart => exact ⟨0, Nat.zero_le _, rfl, Below.refl _ _⟩
  case round =>
    obtain ⟨k, hk, rfl, hb⟩ := hrel
    clear c0
    have c0 := (HC.out wr hb).1
    by_cases hlt : k < N
    · obtain ⟨gl, cl', gw, cw', f1, f2, fc⟩ := HB.out.at k (by rw [HN.out]; exact hlt)
      rw [HE.out.1] at f1
      rw [HE.out.2] at f2
      have g1 := (Value.slice.inj f1).1
      have g2 := (Value.slice.inj f2).1
      subst g1 g2
      obtain ⟨e, he⟩ : ∃ e, e = E[k]'(by rw [HN.out]; exact hlt) := ⟨_, rfl⟩
      have hm : e ∈ E := by rw [he]; exact List.getElem_mem _
      have FC0 : Hid (∀ x, Below w.heap.size w x → x.cell? ⟨gl, k, none⟩ = some (.slice e.a e.l.length e.c) ∧ x.cell? ⟨gw, k, none⟩ = some (.slice e.wa e.l.length e.wc)) := fun x hx => by rw [he]; exact fc x hx
      have k0 : (0 : Int) ≤ (k : Int) := by omega
      have k1 : (k : Int) < (N : Int) := by omega
      have k2 : ((k : Int)).toNat = k := by omega
      have wk : IntKind.i64.wrap ((k : Int) + 1) = (k : Int) + 1 := by rw [IntKind.wrap_i64]; omega
      have HM : Hid _ := hm
      have h65 := HB.out.b256 e hm
      obtain ⟨M, hM⟩ : ∃ M, M = e.l.length := ⟨_, rfl⟩
      have HML : Hid (e.l.length = M) := hM.symm
      rw [← hM] at FC0 h65
      clear fc f1 f2 he hm hM
      go_wp2
      go_loopw [4] (fun ix wr => ∃ j : Nat, j ≤ M ∧ ix = .int .i64 j ∧ Below w.heap.size w wr) (fun ix _ => M - (intOf ix).toNat)
      case atStart => exact ⟨0, Nat.zero_le _, rfl, hb⟩
      case round =>
        obtain ⟨j, hj, rfl, hb2⟩ := hrel
        clear c0 hb
        have c0 := (HC.out wr hb2).1
        have cv := (FC0.out wr hb2).1
        by_cases hjl : j < M
        · have OV := HB.out.own e HM.out
          have OU := HB.out.ownW e HM.out
          obtain ⟨gv, cv', ev⟩ := owns_pos' OV (by rw [HML.out]; omega)
          obtain ⟨gu, cu', eu⟩ := owns_pos' OU (by rw [HML.out]; omega)
          have ev1 := (Value.slice.inj ev).1
          have eu1 := (Value.slice.inj eu).1
          obtain ⟨q, hq⟩ : ∃ q, e.l[j]? = some q := ⟨_, List.getElem?_eq_getElem (by rw [HML.out]; exact hjl)⟩
          have FJ0 : ∀ x, Below w.heap.size w x → x.cell? ⟨gv, j * 2, none⟩ = some (.int .i64 q.k) ∧ x.cell? ⟨gv, j * 2 + 1, none⟩ = some (.slice q.a q.n q.c) ∧ x.cell? ⟨gu, j * 2, none⟩ = some (.int .i64 q.k) ∧ x.cell? ⟨gu, j * 2 + 1, none⟩ = some (.slice q.a q.n q.c) := by
            intro x hx
            have O1 := OwnO.below OV hx
            have O2 := OwnO.below OU hx
            rw [ev] at O1
            rw [eu] at O2
            have hl := HML.out
            obtain ⟨z1, z2⟩ := osC_at e.l j q hq
            exact ⟨(O1.cellAt _ (by omega)).trans z1, (O1.cellAt _ (by omega)).trans z2, (O2.cellAt _ (by omega)).trans z1, (O2.cellAt _ (by omega)).trans z2⟩
          obtain ⟨kd, hkd⟩ : ∃ kd, kd = q.k := ⟨_, rfl⟩
          obtain ⟨oa, hoa⟩ : ∃ oa, oa = q.a := ⟨_, rfl⟩
          obtain ⟨on, hon⟩ : ∃ on, on = q.n := ⟨_, rfl⟩
          obtain ⟨oc, hoc⟩ : ∃ oc, oc = q.c := ⟨_, rfl⟩
          have FJ : Hid (∀ x, Below w.heap.size w x → x.cell? ⟨gv, j * 2, none⟩ = some (.int .i64 kd) ∧ x.cell? ⟨gv, j * 2 + 1, none⟩ = some (.slice oa on oc) ∧ x.cell? ⟨gu, j * 2, none⟩ = some (.int .i64 kd) ∧ x.cell? ⟨gu, j * 2 + 1, none⟩ = some (.slice oa on oc)) := by rw [hkd, hoa, hon, hoc]; exact FJ0
          have FC : Hid (∀ x, Below w.heap.size w x → x.cell? ⟨gl, k, none⟩ = some (.slice (some ⟨gv, 0, none⟩) M e.c) ∧ x.cell? ⟨gw, k, none⟩ = some (.slice (some ⟨gu, 0, none⟩) M e.wc)) := by
            have := FC0.out
            rw [show e.a = some ⟨gv, 0, none⟩ from ev1, show e.wa = some ⟨gu, 0, none⟩ from eu1] at this
            exact this
          rw [show e.a = some ⟨gv, 0, none⟩ from ev1] at cv
          have j0 : (0 : Int) ≤ (j : Int) := by omega
          have j1 : (j : Int) < (M : Int) := by omega
          have j2 : ((j : Int)).toNat = j := by omega
          have wj : IntKind.i64.wrap ((j : Int) + 1) = (j : Int) + 1 := by rw [IntKind.wrap_i64]; omega
          have q1 : (kd != kd) = false := by simp
          have q2 : ((on : Int) != (on : Int)) = false := by simp
          clear FJ0 hkd hoa hon hoc ev eu ev1 eu1 OV OU hq
          go_wp2
          refine MixH.start (fun x => Below w.heap.size w x) (by kernel_rfl) ?_
          obtain ⟨wA, hwA⟩ : ∃ wA, wA = wr.drew := ⟨_, rfl⟩
          have hS : Below w.heap.size w wA := by rw [hwA]; exact hb2.drew
          rw [← hwA]
          clear hwA hb2 c0 cv
          refine MixH.takes [true, true, true, false, true, false, false, true, false, false, false, true, true, true, false, true, false, false, true] 40 (by kernel_rfl) (by kernel_rfl) (by decide) (by kernel_rfl) hS (fun K hK => ?_)
          simp only [Mix.pick]
          repeat (go_big_quiet_step (fail))
          refine wpQuiet_nil (hK _ ?_)
          clear hK K
          refine MixH.take 39 3 _ (.slice (some ⟨gl, 0, none⟩) N cl) rfl (by kernel_rfl) (by kernel_rfl) (by kernel_rfl) (by kernel_rfl) (yields_lists (.tmp 28) rfl K 0 (.slice (some ⟨gl, 0, none⟩) N cl) rfl rfl (fun x h => (HC.out x h).1)) hS (fun a' ha => ?_)
          simp only [Act.put, List.setIfInBounds_toArray, List.set_cons_succ, List.set_cons_zero] at ha
          subst ha
          refine MixH.take 38 14 _ (.slice (some ⟨gw, 0, none⟩) N cw) rfl (by kernel_rfl) (by kernel_rfl) (by kernel_rfl) (by kernel_rfl) (yields_lists (.tmp 39) rfl K 1 (.slice (some ⟨gw, 0, none⟩) N cw) rfl rfl (fun x h => (HC.out x h).2)) hS (fun a' ha => ?_)
          simp only [Act.put, List.setIfInBounds_toArray, List.set_cons_succ, List.set_cons_zero] at ha
          subst ha
          refine MixH.takes [false, false, false, false, false, true, false, false, false, false, false, false, false, false, false, false, true] 36 (by kernel_rfl) (by kernel_rfl) (by decide) (by kernel_rfl) hS (fun K hK => ?_)
          simp only [Mix.pick]
          repeat (go_big_quiet_step (fail))
          refine wpQuiet_nil (hK _ ?_)
          clear hK K
          refine MixH.take 35 6 _ (.slice (some ⟨gv, 0, none⟩) M e.c) rfl (by kernel_rfl) (by kernel_rfl) (by kernel_rfl) (by kernel_rfl) (yields_opts (.tmp 31) rfl gl k (.slice (some ⟨gv, 0, none⟩) M e.c) rfl rfl (fun x h => (FC.out x h).1)) hS (fun a' ha => ?_)
          simp only [Act.put, List.setIfInBounds_toArray, List.set_cons_succ, List.set_cons_zero] at ha
          subst ha
          refine MixH.take 34 17 _ (.slice (some ⟨gu, 0, none⟩) M e.wc) rfl (by kernel_rfl) (by kernel_rfl) (by kernel_rfl) (by kernel_rfl) (yields_opts (.tmp 42) rfl gw k (.slice (some ⟨gu, 0, none⟩) M e.wc) rfl rfl (fun x h => (FC.out x h).2)) hS (fun a' ha => ?_)
          simp only [Act.put, List.setIfInBounds_toArray, List.set_cons_succ, List.set_cons_zero] at ha
          subst ha
          refine MixH.takes [false, false, false, false, false, false, false, false, true, true, false, false, false, false, false, false, false, false, false, true, true] 30 (by kernel_rfl) (by kernel_rfl) (by decide) (by kernel_rfl) hS (fun K hK => ?_)
          simp only [Mix.pick]
          repeat (go_big_quiet_step (fail))
          refine wpQuiet_nil (hK _ ?_)
          clear hK K
          refine MixH.take 29 10 _ (.int .i64 kd) rfl (by kernel_rfl) (by kernel_rfl) (by kernel_rfl) (by kernel_rfl) (Dk.yields_int (.tmp 35) rfl gv (j * 2) (.int .i64 kd) rfl rfl (fun x h => (FJ.out x h).1)) hS (fun a' ha => ?_)
          simp only [Act.put, List.setIfInBounds_toArray, List.set_cons_succ, List.set_cons_zero] at ha
          subst ha
          refine MixH.take 28 21 _ (.int .i64 kd) rfl (by kernel_rfl) (by kernel_rfl) (by kernel_rfl) (by kernel_rfl) (Dk.yields_int (.tmp 46) rfl gu (j * 2) (.int .i64 kd) rfl rfl (fun x h => (FJ.out x h).2.2.1)) hS (fun a' ha => ?_)
          simp only [Act.put, List.setIfInBounds_toArray, List.set_cons_succ, List.set_cons_zero] at ha
          subst ha
          refine MixH.takes [false, false, false, false, false, false, false, false, false, false, false, false, false, false, false, false, false, false, false, false, false, false, true, true] 26 (by kernel_rfl) (by kernel_rfl) (by decide) (by kernel_rfl) hS (fun K hK => ?_)
          simp only [Mix.pick]
          repeat (go_big_quiet_step (fail))
          refine wpQuiet_nil (hK _ ?_)
          clear hK K
          refine MixH.takes [false, false, false, false, false, false, false, false, false, false, false, false, false, false, false, false, false, false, false, false, false, false, false, false, true, true, true, false, true, false, false, true, false, false, false, false, true, true, true, false, true, false, false, true] 16 (by kernel_rfl) (by kernel_rfl) (by decide) (by kernel_rfl) hS (fun K hK => ?_)
          simp only [Mix.pick]
          repeat (go_big_quiet_step (fail))
          refine wpQuiet_nil (hK _ ?_)
          clear hK K
          refine MixH.take 15 27 _ (.slice (some ⟨gl, 0, none⟩) N cl) rfl (by kernel_rfl) (by kernel_rfl) (by kernel_rfl) (by kernel_rfl) (yields_lists (.tmp 52) rfl K 0 (.slice (some ⟨gl, 0, none⟩) N cl) rfl rfl (fun x h => (HC.out x h).1)) hS (fun a' ha => ?_)
          simp only [Act.put, List.setIfInBounds_toArray, List.set_cons_succ, List.set_cons_zero] at ha
          subst ha
          refine MixH.take 14 39 _ (.slice (some ⟨gw, 0, none⟩) N cw) rfl (by kernel_rfl) (by kernel_rfl) (by kernel_rfl) (by kernel_rfl) (yields_lists (.tmp 64) rfl K 1 (.slice (some ⟨gw, 0, none⟩) N cw) rfl rfl (fun x h => (HC.out x h).2)) hS (fun a' ha => ?_)
          simp only [Act.put, List.setIfInBounds_toArray, List.set_cons_succ, List.set_cons_zero] at ha
          subst ha
          refine MixH.takes [false, false, false, false, false, false, false, false, false, false, false, false, false, false, false, false, false, false, false, false, false, false, false, false, false, false, false, false, false, true, false, false, false, false, false, false, false, false, false, false, false, true] 12 (by kernel_rfl) (by kernel_rfl) (by decide) (by kernel_rfl) hS (fun K hK => ?_)
          simp only [Mix.pick]
          repeat (go_big_quiet_step (fail))
          refine wpQuiet_nil (hK _ ?_)
          clear hK K
          refine MixH.take 11 30 _ (.slice (some ⟨gv, 0, none⟩) M e.c) rfl (by kernel_rfl) (by kernel_rfl) (by kernel_rfl) (by kernel_rfl) (yields_opts (.tmp 55) rfl gl k (.slice (some ⟨gv, 0, none⟩) M e.c) rfl rfl (fun x h => (FC.out x h).1)) hS (fun a' ha => ?_)
          simp only [Act.put, List.setIfInBounds_toArray, List.set_cons_succ, List.set_cons_zero] at ha
          subst ha
          refine MixH.take 10 42 _ (.slice (some ⟨gu, 0, none⟩) M e.wc) rfl (by kernel_rfl) (by kernel_rfl) (by kernel_rfl) (by kernel_rfl) (yields_opts (.tmp 67) rfl gw k (.slice (some ⟨gu, 0, none⟩) M e.wc) rfl rfl (fun x h => (FC.out x h).2)) hS (fun a' ha => ?_)
          simp only [Act.put, List.setIfInBounds_toArray, List.set_cons_succ, List.set_cons_zero] at ha
          subst ha
          refine MixH.takes [false, false, false, false, false, false, false, false, false, false, false, false, false, false, false, false, false, false, false, false, false, false, false, false, false, false, false, false, false, false, false, false, true, true, false, false, false, false, false, false, false, false, false, false, true, true] 6 (by kernel_rfl) (by kernel_rfl) (by decide) (by kernel_rfl) hS (fun K hK => ?_)
          simp only [Mix.pick]
          repeat (go_big_quiet_step (fail))
          refine wpQuiet_nil (hK _ ?_)
          clear hK K
          refine MixH.take 5 34 _ (.slice oa on oc) rfl (by kernel_rfl) (by kernel_rfl) (by kernel_rfl) (by kernel_rfl) (Dk.yields_bytes (.tmp 59) rfl gv (j * 2 + 1) (.slice oa on oc) rfl rfl (fun x h => (FJ.out x h).2.1)) hS (fun a' ha => ?_)
          simp only [Act.put, List.setIfInBounds_toArray, List.set_cons_succ, List.set_cons_zero] at ha
          subst ha
          refine MixH.take 4 46 _ (.slice oa on oc) rfl (by kernel_rfl) (by kernel_rfl) (by kernel_rfl) (by kernel_rfl) (Dk.yields_bytes (.tmp 71) rfl gu (j * 2 + 1) (.slice oa on oc) rfl rfl (fun x h => (FJ.out x h).2.2.2)) hS (fun a' ha => ?_)
          simp only [Act.put, List.setIfInBounds_toArray, List.set_cons_succ, List.set_cons_zero] at ha
          subst ha
          refine MixH.takes [false, false, false, false, false, false, false, false, false, false, false, false, false, false, false, false, false, false, false, false, false, false, false, false, false, false, false, false, false, false, false, false, false, false, false, true, false, false, false, false, false, false, false, false, false, false, false, true] 2 (by kernel_rfl) (by kernel_rfl) (by decide) (by kernel_rfl) hS (fun K hK => ?_)
          simp only [Mix.pick]
          repeat (go_big_quiet_step (fail))
          refine wpQuiet_nil (hK _ ?_)
          clear hK K
          refine MixH.takes [false, false, false, false, false, false, false, false, false, false, false, false, false, false, false, false, false, false, false, false, false, false, false, false, false, false, false, false, false, false, false, false, false, false, false, false, false, false, false, false, false, false, false, false, false, false, false, false, true] 1 (by kernel_rfl) (by kernel_rfl) (by decide) (by kernel_rfl) hS (fun K hK => ?_)
          simp only [Mix.pick]
          repeat (go_big_quiet_step (fail))
          refine wpQuiet_nil (hK _ ?_)
          clear hK K
          refine MixH.takes [false, false, false, false, false, false, false, false, false, false, false, false, false, false, false, false, false, false, false, false, false, false, false, false, false, false, false, false, false, false, false, false, false, false, false, false, false, false, false, false, false, false, false, false, false, false, false, false, false, true] 0 (by kernel_rfl) (by kernel_rfl) (by decide) (by kernel_rfl) hS (fun K hK => ?_)
          simp only [Mix.pick]
          repeat (go_big_quiet_step (fail))
          refine wpQuiet_nil (hK _ ?_)
          clear hK K
          refine MixH.done (by kernel_rfl) ?_
          go_wp2
          go_roundw
          case rel => exact ⟨j + 1, by omega, by go_num, hS⟩
          case measure => simp [intOf]; omega
        · have hni : ¬ ((j : Int) < (M : Int)) := by omega
          clear hjl
          go_wp2
          go_roundw
          case rel => exact ⟨k + 1, by omega, by go_num, hb2⟩
          case measure => simp [intOf]; omega
    · have hni : ¬ ((k : Int) < (N : Int)) := by omega
      clear hlt
      go_wp2
      go_ret
      exact ⟨rfl, hb⟩
end Go.Proofs.YtdinhgfkpjaipaaDoor.Ll
namespace Go.Proofs.YtdinhgfkpjaipaaDoor.Ll
open Go.RowKit

def mark (i : Nat) : Int := -1000 - (i : Int)
def oe (x : Int) : OE := ⟨x, none, 0, 0⟩
def rp (n : Nat) (x : Int) : List OE := List.replicate n (oe x)
def full (c : Int) (k : Nat) (l : List OE) : List OE := List.replicate k (oe c) ++ l.drop k
theorem full_set (c : Int) (k : Nat) (l : List OE) (h : k < l.length) : (full c k l).set k (oe c) = full c (k + 1) l := by
  unfold full
  rw [List.set_append_right _ _ (by simp), List.length_replicate, Nat.sub_self, List.drop_eq_getElem_cons h, List.set_cons_zero, List.replicate_succ']
  simp
theorem full_all (c : Int) (n : Nat) (l : List OE) (h : l.length = n) : full c n l = rp n c := by subst h; simp [full, rp]
theorem full_zero (c : Int) (l : List OE) : full c 0 l = l := by simp [full]
theorem full_len (c : Int) (k : Nat) (l : List OE) (h : k ≤ l.length) : (full c k l).length = l.length := by simp [full]; omega
theorem osC_app (l m : List OE) : osC (l ++ m) = osC l ++ osC m := by simp [osC]
theorem rp_succ (n : Nat) (x : Int) : osC (rp n x) ++ [.int .i64 x, .slice none 0 0] = osC (rp (n + 1) x) := by
  unfold rp; rw [List.replicate_succ', osC_app]; rfl
theorem rp_at (n : Nat) (x : Int) (k : Nat) (h : k < n) : (rp n x)[k]? = some (oe x) := by simp [rp, h]
theorem OwnO.len {w : World} {B : Nat} {v : Value} {n : Nat} {l : List OE} (h : OwnO w B v n l) : l.length = n := by have := h.1; rw [osC_len] at this; omega
/-- a list that can be read, of one mark alone -/
def Rd (w : World) (a : Option Addr) (n : Nat) (x : Int) : Prop := n = 0 ∨ ∃ g, a = some ⟨g, 0, none⟩ ∧ (∃ c, w.heap[g]? = some (.cells c 43 (0, 0))) ∧ ∀ k, k < n → w.cell? ⟨g, k * 2, none⟩ = some (.int .i64 x) ∧ w.cell? ⟨g, k * 2 + 1, none⟩ = some (.slice none 0 0)
theorem Rd.two {w : World} {a : Option Addr} {n : Nat} {x : Int} (h : Rd w a n x) : Rd2 w a n x := by
  rcases h with h | ⟨g, e, _, h⟩
  · exact .inl h
  · exact .inr ⟨g, e, h⟩
theorem Rd.keep {w w' : World} {a : Option Addr} {n : Nat} {x : Int} {r : Option Nat} (h : Rd w a n x) (hg : w.grownBy w' r) (hne : ∀ g, a = some ⟨g, 0, none⟩ → some g ≠ r) : Rd w' a n x := by
  rcases h with h | ⟨g, rfl, ⟨c, hc⟩, h⟩
  · exact .inl h
  · refine .inr ⟨g, rfl, ⟨c, ?_⟩, fun k hk => ⟨hg.cell (h k hk).1 (hne g rfl), hg.cell (h k hk).2 (hne g rfl)⟩⟩
    rw [hg.block g (Array.getElem?_eq_some_iff.1 hc).1 (hne g rfl)]
    exact hc
theorem Rd.of {w : World} {B : Nat} {a a' : Option Addr} {n n' c c' : Nat} {x : Int} (h : OwnO w B (.slice a' n' c') n' (rp n' x)) (hn : n ≤ n') (ha : (Value.slice a n c).ownBlock = (Value.slice a' n' c').ownBlock) (hz : ∀ y, a = some y → y = ⟨y.block, 0, none⟩) : Rd w a n x := by
  by_cases h0 : n = 0
  · exact .inl h0
  · rcases h.2 with ⟨_, h1⟩ | ⟨g, cap, cur, hv, hg, hh, r⟩
    · omega
    · have hv' := hv
      simp only [Value.slice.injEq, true_and] at hv
      obtain ⟨rfl, rfl⟩ := hv
      cases a with
      | none => simp [Value.ownBlock] at ha
      | some y =>
        have := hz y rfl
        simp only [Value.ownBlock, Option.some.injEq] at ha
        rw [ha] at this
        subst this
        refine .inr ⟨g, rfl, ⟨cur, hh⟩, fun k hk => ?_⟩
        obtain ⟨z1, z2⟩ := osC_at _ _ _ (rp_at n' x k (by omega))
        exact ⟨(h.cellAt _ (by omega)).trans z1, (h.cellAt _ (by omega)).trans z2⟩
abbrev vv (A : Nat → Option Addr) (C M : Nat → Nat) (j : Nat) : Value := .slice (A j) (M j) (C j)
/-- the lists' blocks -/
def vB (A : Nat → Option Addr) (C M : Nat → Nat) (n q : Nat) : Prop := ∃ j, j < n ∧ (vv A C M j).ownBlock = some q
/-- what does not change: the lists lie apart, among the call's own, at the head of their blocks -/
structure Still (n lb B : Nat) (A : Nat → Option Addr) (C M : Nat → Nat) (w0 : World) (K : Nat) : Prop where
  nK : ∀ j, j < n → (vv A C M j).ownBlock ≠ some K
  lK : K < w0.heap.size
  dis : ∀ i j, i < n → j < n → i ≠ j → (vv A C M i).ownBlock = none ∨ (vv A C M i).ownBlock ≠ (vv A C M j).ownBlock
  nlb : ∀ j, j < n → (vv A C M j).ownBlock ≠ some lb
  head : ∀ j, j < n → ∀ y, A j = some y → y = ⟨y.block, 0, none⟩
  base : ∀ j, j < n → ∀ q, (vv A C M j).ownBlock = some q → B ≤ q ∧ q < w0.heap.size
  lbs : lb < w0.heap.size
  size : B ≤ w0.heap.size
theorem own_head {w : World} {B n c : Nat} {a : Option Addr} {l : List OE} (h : OwnO w B (.slice a n c) n l) : ∀ y, a = some y → y = ⟨y.block, 0, none⟩ := by
  intro y hy
  rcases h.2 with ⟨h1, _⟩ | ⟨g, cap, cur, h1, _⟩
  · simp only [Value.slice.injEq] at h1; rw [hy] at h1; simp at h1
  · simp only [Value.slice.injEq] at h1; rw [hy] at h1; simp only [Option.some.injEq] at h1; rw [h1.1]
/-- the first loop: each list holds F -/
structure L1 (K : Nat) (kv : Value) (n lb off B : Nat) (A : Nat → Option Addr) (C M : Nat → Nat) (F : Nat → List OE) (w0 w : World) : Prop where
  kc : w.cell? ⟨K, 0, none⟩ = some kv
  row : ∀ j, j < n → w.cell? ⟨lb, off + j, none⟩ = some (vv A C M j)
  own : ∀ j, j < n → OwnO w B (vv A C M j) (M j) (F j)
  bel : Below B w0 w
  ch : Ch (vB A C M n) w0 w
theorem L1.step {K : Nat} {kv : Value} {n lb off B : Nat} {A : Nat → Option Addr} {C M : Nat → Nat} {F G : Nat → List OE} {w0 w w' : World} (h : L1 K kv n lb off B A C M F w0 w) (hs : Still n lb B A C M w0 K) {i : Nat} (hi : i < n)
    (ho : OwnO w' B (vv A C M i) (M i) (G i)) (hg : w.grownBy w' (vv A C M i).ownBlock) (hG : ∀ j, j ≠ i → G j = F j) : L1 K kv n lb off B A C M G w0 w' := by
  refine ⟨hg.cell h.kc (fun e => hs.nK i hi e.symm), fun j hj => hg.cell (h.row j hj) (fun e => hs.nlb i hi e.symm), fun j hj => ?_, h.bel.grown hg (Nat.le_trans hs.size h.bel.size) (fun k hk => (hs.base i hi k hk).1), h.ch.trans (Ch.ofGrown hg) (fun _ _ e => ⟨i, hi, e⟩)⟩
  by_cases e : j = i
  · subst e; exact ho
  · rw [hG j e]; exact (h.own j hj).kept hg (hs.dis j i hj hi e)
/-- .. of those ahead of i, marked -/
def mkd (M : Nat → Nat) (L : Nat → List OE) (i j : Nat) : List OE := if j < i then rp (M j) (mark j) else L j

/-- the second loop: the lists from i on, the longer ones ahead of i -/
structure L2 (K : Nat) (kv : Value) (n lb off B : Nat) (A : Nat → Option Addr) (C M : Nat → Nat) (i : Nat) (G : Nat → Value) (w0 w : World) : Prop where
  kc : w.cell? ⟨K, 0, none⟩ = some kv
  row : ∀ j, j < n → w.cell? ⟨lb, off + j, none⟩ = some (vv A C M j)
  own : ∀ j, i ≤ j → j < n → OwnO w B (vv A C M j) (M j) (rp (M j) (mark j))
  lon : ∀ j, j < i → OwnO w B (G j) (2 * M j + 9) (rp (2 * M j + 9) (mark j))
  rd : ∀ j, j < i → Rd w (A j) (M j) (mark j)
  sep : ∀ j k, j < i → i ≤ k → k < n → (G j).ownBlock = none ∨ (G j).ownBlock ≠ (vv A C M k).ownBlock
  bel : Below B w0 w
  ch : Ch (vB A C M n) w0 w
theorem L2.step {K : Nat} {kv : Value} {n lb off B : Nat} {A : Nat → Option Addr} {C M : Nat → Nat} {i : Nat} {G : Nat → Value} {w0 w w' : World} (h : L2 K kv n lb off B A C M i G w0 w) (hs : Still n lb B A C M w0 K) (hi : i < n) (g : Value)
    (ho : OwnO w' B g (2 * M i + 9) (rp (2 * M i + 9) (mark i))) (hr : Rd w' (A i) (M i) (mark i)) (hg : w.grownBy w' (vv A C M i).ownBlock)
    (hp : g.ownBlock = (vv A C M i).ownBlock ∨ ∀ q, g.ownBlock = some q → w.heap.size ≤ q) : L2 K kv n lb off B A C M (i + 1) (fun j => if j = i then g else G j) w0 w' := by
  have hsz := h.bel.size
  refine ⟨hg.cell h.kc (fun e => hs.nK i hi e.symm), fun j hj => hg.cell (h.row j hj) (fun e => hs.nlb i hi e.symm), fun j h1 hj => (h.own j (by omega) hj).kept hg (hs.dis j i hj hi (by omega)), fun j hj => ?_, fun j hj => ?_, fun j k hj h1 hk => ?_, h.bel.grown hg (Nat.le_trans hs.size hsz) (fun k hk => (hs.base i hi k hk).1), h.ch.trans (Ch.ofGrown hg) (fun _ _ e => ⟨i, hi, e⟩)⟩
  · by_cases e : j = i
    · subst e; simpa using ho
    · simp only [e, if_false]; exact (h.lon j (by omega)).kept hg (h.sep j i (by omega) (Nat.le_refl _) hi)
  · by_cases e : j = i
    · subst e; exact hr
    · refine (h.rd j (by omega)).keep hg (fun q hq => ?_)
      rcases hs.dis j i (by omega) hi e with h1 | h1
      · simp [vv, hq, Value.ownBlock] at h1
      · simpa [vv, hq, Value.ownBlock] using h1
  · by_cases e : j = i
    · subst e
      simp only [if_true]
      rcases hp with hp | hp
      · rw [hp]; exact hs.dis j k hi hk (by omega)
      · cases hv : g.ownBlock with
        | none => exact .inl rfl
        | some q =>
          refine .inr (fun e => ?_)
          have h2 := hp q hv
          have h3 := (hs.base k hk q e.symm).2
          omega
    · simp only [e, if_false]; exact h.sep j k (by omega) (by omega) hk
/-- .. while the list of the longer ones is lengthened -/
theorem L2.long {K : Nat} {kv : Value} {n lb off B : Nat} {A : Nat → Option Addr} {C M : Nat → Nat} {i m : Nat} {G : Nat → Value} {w0 w w' : World} {v : Value} {xs : List Value} (h : L2 K kv n lb off B A C M i G w0 w) (hs : Still n lb B A C M w0 K)
    (hv : w.ownsRow w0.heap.size 25 1 v m xs) (hg : w.grownBy w' v.ownBlock) : L2 K kv n lb off B A C M i G w0 w' := by
  have hsz := h.bel.size
  refine ⟨hg.cell h.kc (fun e => by have := (hv.lt K e.symm).1; have := hs.lK; omega), fun j hj => hg.cell (h.row j hj) (fun e => ?_), fun j h1 hj => (h.own j h1 hj).kept hg (apart' (h.own j h1 hj) hv (by decide)), fun j hj => (h.lon j hj).kept hg (apart' (h.lon j hj) hv (by decide)), fun j hj => ?_, h.sep, h.bel.grown hg (Nat.le_trans hs.size hsz) (fun k hk => Nat.le_trans hs.size (hv.lt k hk).1), h.ch.trans (Ch.ofGrown hg) (fun x hx e => absurd hx (by have := (hv.lt x e).1; omega))⟩
  · have := (hv.lt lb e.symm).1
    have := hs.lbs
    omega
  · rcases h.rd j hj with h0 | ⟨g, ha, ⟨c, hc⟩, hcell⟩
    · exact .inl h0
    · refine Rd.keep (.inr ⟨g, ha, ⟨c, hc⟩, hcell⟩) hg (fun q hq e => ?_)
      rw [ha] at hq
      simp only [Option.some.injEq, Addr.mk.injEq, and_true] at hq
      subst hq
      obtain ⟨c', hc'⟩ := kind' hv g e.symm
      rw [hc] at hc'
      simp at hc'
theorem L2.alloc {K : Nat} {kv : Value} {n lb off B : Nat} {A : Nat → Option Addr} {C M : Nat → Nat} {i : Nat} {G : Nat → Value} {w0 w : World} (h : L2 K kv n lb off B A C M i G w0 w) (hs : Still n lb B A C M w0 K) (o : Obj) : L2 K kv n lb off B A C M i G w0 (w.alloc o) := by
  have hg := World.grownBy_alloc w o none
  exact ⟨hg.cell h.kc (by simp), fun j hj => hg.cell (h.row j hj) (by simp), fun j h1 hj => (h.own j h1 hj).alloc o, fun j hj => (h.lon j hj).alloc o, fun j hj => (h.rd j hj).keep hg (fun _ _ => by simp), h.sep, h.bel.alloc (Nat.le_trans hs.size h.bel.size) o, h.ch.alloc o⟩
def mi0 (M : Nat → Nat) (i : Nat) : Nat := M i
/-- while one list is lengthened: it still reads as it was, the longer one lies in its row or in a new one -/
structure Inn (wi w : World) (a : Option Addr) (m c : Nat) (x : Int) (gv : Value) : Prop where
  rd : Rd w a m x
  grow : wi.grownBy w (Value.slice a m c).ownBlock
  old : ∀ q, (Value.slice a m c).ownBlock = some q → q < wi.heap.size
  head : ∀ y, a = some y → y = ⟨y.block, 0, none⟩
  at' : gv.ownBlock = (Value.slice a m c).ownBlock ∨ ∀ q, gv.ownBlock = some q → wi.heap.size ≤ q
theorem Inn.start {w : World} {a : Option Addr} {m c B : Nat} {x : Int} (h : OwnO w B (.slice a m c) m (rp m x)) (hh : ∀ y, a = some y → y = ⟨y.block, 0, none⟩) : Inn w w a m c x (.slice a m c) :=
  ⟨Rd.of h (Nat.le_refl _) rfl hh, World.grownBy.refl _ _, fun q hq => (h.lt q hq).2, hh, .inl rfl⟩
theorem Inn.step {wi w w' : World} {a : Option Addr} {m c B n : Nat} {x : Int} {gv gv' : Value} {o : Obj} (h : Inn wi w a m c x gv) (ho : OwnO w' B gv' n (rp n x)) (hn : m ≤ n)
    (hs : ((w.alloc o).grownBy w' none ∧ ∀ q, gv'.ownBlock = some q → (w.alloc o).heap.size ≤ q) ∨ ((w.alloc o).grownBy w' gv.ownBlock ∧ gv'.ownBlock = gv.ownBlock ∧ gv.ownBlock ≠ none)) : Inn wi w' a m c x gv' := by
  have ha : wi.grownBy (w.alloc o) (Value.slice a m c).ownBlock := gtrans h.grow (World.grownBy_alloc w o _)
  have hra : Rd (w.alloc o) a m x := h.rd.keep (World.grownBy_alloc w o none) (fun _ _ => by simp)
  rcases hs with ⟨hg, hq⟩ | ⟨hg, e, hne⟩
  · exact ⟨hra.keep hg (fun _ _ => by simp), gfar ha hg (fun _ h => by simp at h), h.old, h.head, .inr (fun q hq' => Nat.le_trans ha.size (hq q hq'))⟩
  · rcases h.at' with h1 | h1
    · refine ⟨?_, gtrans ha (by rw [← h1]; exact hg), h.old, h.head, .inl (e.trans h1)⟩
      obtain ⟨a', c', rfl⟩ := owns_shape ho
      exact Rd.of ho hn (h1.symm.trans e.symm) h.head
    · refine ⟨hra.keep hg (fun g hg' e' => ?_), gfar ha hg h1, h.old, h.head, .inr (fun q hq => h1 q (e ▸ hq))⟩
      have h2 := h.old g (by rw [hg']; rfl)
      have h3 := h1 g e'.symm
      omega
end Go.Proofs.YtdinhgfkpjaipaaDoor.Ll
namespace Go.Proofs.YtdinhgfkpjaipaaDoor.Ll
open Go.RowKit
open Bk (R R.symm news_at news1')

theorem form {w : World} {B : Nat} {v : Value} {n : Nat} {l : List OE} (h : OwnO w B v n l) (hn : 0 < n) : ∃ g c, v = .slice (some ⟨g, 0, none⟩) n c ∧ B ≤ g ∧ g < w.heap.size := by
  rcases h.2 with ⟨_, h0⟩ | ⟨g, cap, cur, rfl, hg, hh, r⟩
  · omega
  · exact ⟨g, cap, rfl, hg, (Array.getElem?_eq_some_iff.1 hh).1⟩
theorem osC_set (l : List OE) (k : Nat) (x : Int) : ((osC l).set (k * 2) (.int .i64 x)).set (k * 2 + 1) (.slice none 0 0) = osC (l.set k (oe x)) := by
  induction l generalizing k with
  | nil => simp [osC]
  | cons o l ih =>
    have e : ∀ (o : OE) (l : List OE), osC (o :: l) = .int .i64 o.k :: .slice o.a o.n o.c :: osC l := fun o l => by simp [osC, OE.cs]
    rw [e]
    match k with
    | 0 => show _ = osC (oe x :: l); rw [e]; rfl
    | k + 1 =>
      show _ = osC (o :: l.set k (oe x))
      rw [e, ← ih k, show (k + 1) * 2 = k * 2 + 1 + 1 by omega]
      rfl
theorem mark_wrap (i : Nat) (h : i ≤ 1000000) : IntKind.i64.wrap (-1000 - (i : Int)) = mark i := by
  simp [mark, IntKind.wrap, IntKind.bits, IntKind.signed]; omega
set_option maxHeartbeats 6400000 in
set_option maxRecDepth 100000 in
theorem settle_walk (K n lb cl B : Nat) (kL : Value) (A : Nat → Option Addr) (C M : Nat → Nat) (L : Nat → List OE) (w0 : World) (hkL : kL = .slice (some ⟨lb, 0, none⟩) n cl) (HH : Hid (∀ w, Below w0.heap.size w0 w → Still n lb B A C M w K ∧ L1 K kL n lb 0 B A C M L w w)) (hB0 : B ≤ w0.heap.size) (hM : ∀ j, M j ≤ 65535) (hn : n ≤ 1000000)
    (QU : Hid (Calls Tryd.prog 45 #[.pointer (some ⟨K, 0, none⟩)] w0 fun e w' => e = .returned (.bool true) ∧ Below w0.heap.size w0 w')) :
    Calls Tryd.prog 46 #[.pointer (some ⟨K, 0, none⟩)] w0 fun e w' => e = .returned (.bool true) ∧ Below B w0 w' ∧ Ch (vB A C M n) w0 w' := by
  obtain ⟨i0, hi, hz0, hz1, hz2⟩ := info_parts Tryd.infoOpt
  obtain ⟨j0, hj, hy0, hy1, hy2⟩ := info_parts infoOpts
  subst hkL
  go_enter Tryd.func46, Tryd.ntmps46
  go_wp2_with fail
  refine Calls.mono QU.out ?_
  rintro e w ⟨rfl, hbU⟩
  have HS : Hid _ := (HH.out w hbU).1
  have H0 : Hid _ := (HH.out w hbU).2
  have HBU : Hid (Below B w0 w) := hbU.mono hB0
  have HBU2 : Hid (Below w0.heap.size w0 w) := hbU
  clear QU HH hbU
  have kc0 := H0.out.kc
  go_wp2
  go_loopw [3] (fun ix wr => ∃ k : Nat, k ≤ n ∧ ix = .int .i64 k ∧ Hid (L1 K (.slice (some ⟨lb, 0, none⟩) n cl) n lb 0 B A C M (mkd M L k) w wr)) (fun ix _ => n - (intOf ix).toNat)
  case atStart => exact ⟨0, Nat.zero_le _, rfl, by
    have e : mkd M L 0 = L := by funext j; simp [mkd]
    rw [e]; exact H0⟩
  case round =>
    obtain ⟨i, hin, rfl, HI⟩ := hrel
    clear kc0
    have kc := HI.out.kc
    by_cases hlt : i < n
    · have hrow := HI.out.row i hlt
      rw [Nat.zero_add] at hrow
      have ho := HI.out.own i hlt
      have hMi := hM i
      have HF : Hid (mkd M L i i = L i) := by show _ = _; simp [mkd]
      have hlL : (L i).length = M i := by rw [← HF.out]; exact ho.len
      rw [HF.out] at ho
      have HEQ : Hid (∀ ai mi ci, A i = ai → M i = mi → C i = ci → vv A C M i = .slice ai mi ci) := fun _ _ _ h1 h2 h3 => by rw [vv, h1, h2, h3]
      obtain ⟨ai, hai⟩ : ∃ x, x = A i := ⟨_, rfl⟩
      obtain ⟨mi, hmi⟩ : ∃ x, x = M i := ⟨_, rfl⟩
      obtain ⟨ci, hci⟩ : ∃ x, x = C i := ⟨_, rfl⟩
      obtain ⟨li, hli⟩ : ∃ x, x = L i := ⟨_, rfl⟩
      have HV : Hid (vv A C M i = .slice ai mi ci) := HEQ.out ai mi ci hai.symm hmi.symm hci.symm
      have HMI : Hid (M i = mi) := hmi.symm
      have HLI : Hid (L i = li) := hli.symm
      rw [HV.out] at hrow ho
      rw [← hmi] at hMi ho hlL
      rw [← hli] at ho hlL
      have HLL : Hid (li.length = mi) := hlL
      clear hai hmi hci hli hlL HEQ
      obtain ⟨x, hx⟩ : ∃ x, x = mark i := ⟨_, rfl⟩
      have HX : Hid (mark i = x) := hx.symm
      have hx2 : IntKind.i64.wrap (-1000 - (i : Int)) = x := by rw [hx]; exact mark_wrap i (by omega)
      clear hx
      obtain ⟨wi, hwi⟩ : ∃ wi, wi = wr := ⟨_, rfl⟩
      rw [← hwi] at HI hrow ho kc ⊢
      clear hwi
      go_wp2
      go_loopw [4] (fun ix wq => ∃ k : Nat, k ≤ mi ∧ ix = .int .i64 k ∧ OwnO wq B (.slice ai mi ci) mi (full x k li) ∧ wi.grownBy wq (Value.slice ai mi ci).ownBlock) (fun ix _ => mi - (intOf ix).toNat)
      case atStart => exact ⟨0, Nat.zero_le _, rfl, by rw [full_zero]; exact ho, World.grownBy.refl _ _⟩
      case round =>
        obtain ⟨k, hk, rfl, hq, hgq⟩ := hrel
        have hnlb := HS.out.nlb i hlt
        have hnK := HS.out.nK i hlt
        rw [HV.out] at hnlb hnK
        have hrow' := hgq.cell hrow (fun e => hnlb e.symm)
        have kc' := hgq.cell kc (fun e => hnK e.symm)
        by_cases hlk : k < mi
        · obtain ⟨g, c', e2, hgB, hgs⟩ := form hq (by omega)
          simp only [Value.slice.injEq, true_and] at e2
          obtain ⟨rfl, rfl⟩ := e2
          have hl := hq.len
          have hlo : k < (full x k li).length := by omega
          obtain ⟨q, hq'⟩ : ∃ q, (full x k li)[k]? = some q := ⟨_, List.getElem?_eq_getElem hlo⟩
          obtain ⟨z1, z2⟩ := osC_at _ _ _ hq'
          have cc : wr.cell? ⟨g, k * 2, none⟩ = some (.int .i64 q.k) := (hq.cellAt _ (by omega)).trans z1
          have cc2 : wr.cell? ⟨g, k * 2 + 1, none⟩ = some (.slice q.a q.n q.c) := (hq.cellAt _ (by omega)).trans z2
          have ff := hq.frozenAt (k * 2)
          have ff2 := hq.frozenAt (k * 2 + 1)
          have hst1 := hq.stored (k * 2) (.int .i64 x)
          have hst2 := hst1.1.stored (k * 2 + 1) (.slice none 0 0)
          have hst : _ ∧ _ := ⟨hst2.1, gtrans hst1.2 hst2.2⟩
          rw [osC_set, full_set x k _ (by rw [HLL.out]; exact hlk)] at hst
          have HST : Hid (_ ∧ _) := hst
          clear z1 z2 hst1 hst2 hlo
          have HGQ : Hid _ := hgq
          clear hst hq' hl hq ho hrow hgq hnlb hnK kc
          go_wp2
          go_roundw
          case rel => exact ⟨k + 1, by omega, by go_num, HST.out.1, gtrans HGQ.out HST.out.2⟩
          case measure => simp [intOf]; omega
        · have hkm : k = mi := by omega
          have hq2 : OwnO wr B (.slice ai mi ci) mi (rp mi x) := by rw [hkm, full_all x mi li HLL.out] at hq; exact hq
          have HN : Hid (L1 K (.slice (some ⟨lb, 0, none⟩) n cl) n lb 0 B A C M (mkd M L (i + 1)) w wr) := by
            refine L1.step HI.out HS.out hlt ?_ (by rw [HV.out]; exact hgq) (fun j hj => ?_)
            · have e : mkd M L (i + 1) i = rp mi x := by simp [mkd, HX.out, HMI.out]
              rw [e, HV.out, HMI.out]; exact hq2
            · simp only [mkd]
              by_cases h1 : j < i
              · rw [if_pos h1, if_pos (by omega)]
              · rw [if_neg h1, if_neg (by omega)]
          clear hq hq2 hgq hrow ho hnlb hkm hnK kc
          go_wp2
          go_roundw
          case rel => exact ⟨i + 1, by omega, by go_num, HN⟩
          case measure => simp [intOf]; omega
    · have hin' : i = n := by omega
      have HL : Hid (L2 K (.slice (some ⟨lb, 0, none⟩) n cl) n lb 0 B A C M 0 (fun _ => .slice none 0 0) w wr) := by
        have h := HI.out
        refine ⟨h.kc, h.row, fun j _ hj => ?_, fun j hj => by omega, fun j hj => by omega, fun j _ hj => by omega, h.bel, h.ch⟩
        have := h.own j hj
        rw [show mkd M L i j = rp (M j) (mark j) by simp only [mkd]; rw [if_pos (by omega)]] at this
        exact this
      have hni : ¬ ((i : Int) < (n : Int)) := by omega
      clear hin' HI hlt
      go_wp2
      go_loopw [5, 6] (fun lv ix wr => ∃ (k : Nat) (G : Nat → Value), k ≤ n ∧ ix = .int .i64 k ∧ wr.ownsRow w.heap.size 25 1 lv k ((List.range k).map G) ∧ Hid (L2 K (.slice (some ⟨lb, 0, none⟩) n cl) n lb 0 B A C M k G w wr)) (fun _ ix _ => n - (intOf ix).toNat)
      case atStart => exact ⟨0, fun _ => .slice none 0 0, Nat.zero_le _, rfl, World.ownsRow_nil _ _ _ _, HL⟩
      case round =>
        obtain ⟨i, G, hin2, rfl, hlong, HI⟩ := hrel
        clear HL hni hin kc
        have kc := HI.out.kc
        by_cases hlt : i < n
        · have hrow := HI.out.row i hlt
          rw [Nat.zero_add] at hrow
          have ho := HI.out.own i (Nat.le_refl _) hlt
          have hMi := hM i
          have hBs : B ≤ w.heap.size := HS.out.size
          have hws : w.heap.size ≤ wr.heap.size := HI.out.bel.size
          have HEQ : Hid (∀ ai mi ci, A i = ai → M i = mi → C i = ci → vv A C M i = .slice ai mi ci) := fun _ _ _ h1 h2 h3 => by rw [vv, h1, h2, h3]
          have hhd := HS.out.head i hlt
          have hbs := HS.out.base i hlt
          obtain ⟨ai, hai⟩ : ∃ x, x = A i := ⟨_, rfl⟩
          obtain ⟨mi, hmi⟩ : ∃ x, x = M i := ⟨_, rfl⟩
          obtain ⟨ci, hci⟩ : ∃ x, x = C i := ⟨_, rfl⟩
          have HV : Hid (vv A C M i = .slice ai mi ci) := HEQ.out ai mi ci hai.symm hmi.symm hci.symm
          have HMI : Hid (M i = mi) := hmi.symm
          have HAI : Hid (A i = ai) := hai.symm
          rw [HV.out] at hrow ho hbs
          rw [← hmi] at hMi ho
          rw [← hai] at hhd
          obtain ⟨x, hx⟩ : ∃ x, x = mark i := ⟨_, rfl⟩
          rw [← hx] at ho
          have HX : Hid (mark i = x) := hx.symm
          have hx2 : IntKind.i64.wrap (-1000 - (i : Int)) = x := by rw [hx]; exact mark_wrap i (by omega)
          have HHD : Hid (∀ y, ai = some y → y = ⟨y.block, 0, none⟩) := hhd
          have HBS : Hid (∀ q, (Value.slice ai mi ci).ownBlock = some q → B ≤ q ∧ q < w.heap.size) := hbs
          clear hx hai hmi hci HEQ hhd hbs
          obtain ⟨wi, hwi⟩ : ∃ wi, wi = wr := ⟨_, rfl⟩
          rw [← hwi] at HI hrow ho hws hlong kc ⊢
          clear hwi
          obtain ⟨T, hT⟩ : ∃ T, T = 2 * mi + 9 := ⟨_, rfl⟩
          have HT : Hid (T = 2 * mi + 9) := hT
          have hT1 : 2 * (mi : Int) + 9 = (T : Int) := by omega
          have hT2 : T ≤ 131079 := by omega
          clear hT
          go_wp2
          go_loopw [7] (fun gv wq => ∃ k : Nat, mi + k ≤ T ∧ OwnO wq B gv (mi + k) (rp (mi + k) x) ∧ Hid (Inn wi wq ai mi ci x gv)) (fun gv _ => T - (match gv with | .slice _ m _ => m | _ => 0))
          case atStart => exact ⟨0, by have := HT.out; omega, ho, Inn.start ho HHD.out⟩
          case round =>
            obtain ⟨k, hk, hq, HN⟩ := hrel
            obtain ⟨a7, c7, rfl⟩ := owns_shape hq
            obtain ⟨m, hm⟩ : ∃ m, m = mi + k := ⟨_, rfl⟩
            have HM7 : Hid (m = mi + k) := hm
            rw [← hm] at hq hk HN ⊢
            clear hm
            by_cases hlk : m < T
            · have hsz := HN.out.grow.size
              clear ho hrow kc
              go_wp2_with (first | (at_builtin; refine Dk.append_splitK 2 (by decide) rfl (.tmp 70) (.tmp 74) 25 rfl B 43 i0 (.agg #[.int .i64 0, .slice none 0 0]) 32 Tryd.underlying25 hi hz0 hz1 hz2 rfl _ _ _ rfl (hq.alloc _) ⟨wr.heap.size, 0, none⟩ 1 1 [.int .i64 x, .slice none 0 0] rfl rfl (news_at _ _ _) (by intro u hu; simp at hu; rcases hu with rfl | rfl <;> rfl) (by unfold maxLen; omega) (by omega) (by simp; omega) ?_))
              intro v6 w6 ho6' hsp
              have ho6 : OwnO w6 B v6 (m + 1) (rp (m + 1) x) := by
                rw [OwnO, ← rp_succ]; exact ho6'
              have HN6 : Hid (Inn wi w6 ai mi ci x v6) := HN.out.step (o := .cells #[.int .i64 x, .slice none 0 0] 43) ho6 (by have := HM7.out; omega) (by simpa using hsp)
              obtain ⟨a8, c8, rfl⟩ := owns_shape ho6
              clear hsp ho6' hq HN
              go_wp2
              go_roundw
              case rel => have := HM7.out; exact ⟨k + 1, by omega, by rw [show mi + (k + 1) = m + 1 by omega]; exact ho6, HN6⟩
              case measure => simp; omega
            · have hmT : m = T := by omega
              have hni : ¬ ((m : Int) < (T : Int)) := by omega
              rw [hmT] at hq HN ⊢
              obtain ⟨u8, hu8⟩ : ∃ u, u = Value.slice a7 T c7 := ⟨_, rfl⟩
              rw [← hu8] at hq HN
              have HI2 : Hid (L2 K (.slice (some ⟨lb, 0, none⟩) n cl) n lb 0 B A C M (i + 1) (fun j => if j = i then u8 else G j) w wr) := by
                refine HI.out.step HS.out hlt u8 ?_ ?_ ?_ ?_
                · rw [HMI.out, HX.out, ← HT.out]; exact hq
                · rw [HMI.out, HX.out, HAI.out]; exact HN.out.rd
                · rw [HV.out]; exact HN.out.grow
                · rw [HV.out]; exact HN.out.at'
              have hlong2 : wr.ownsRow w.heap.size 25 1 u5 i ((List.range i).map G) := hlong.kept HN.out.grow (by
                cases hv : u5.ownBlock with
                | none => exact .inl rfl
                | some q =>
                  refine .inr (fun e => ?_)
                  have h1 := (hlong.lt q hv).1
                  have h2 := (HBS.out q e.symm).2
                  omega)
              have hsz := HN.out.grow.size
              have hmap : (List.range i).map G ++ [u8] = (List.range (i + 1)).map (fun j => if j = i then u8 else G j) := by
                rw [List.range_succ, List.map_append]
                congr 1
                · refine List.map_congr_left (fun j hj => ?_)
                  rw [List.mem_range] at hj
                  rw [if_neg (by omega)]
                · simp
              have HMAP : Hid _ := hmap
              obtain ⟨G2, hG2⟩ : ∃ G2, G2 = (fun j => if j = i then u8 else G j) := ⟨_, rfl⟩
              rw [← hG2] at HI2 HMAP
              clear hmap hG2 hlong ho hrow hq HN HI kc
              obtain ⟨xs, hxs⟩ : ∃ xs, xs = (List.range i).map G := ⟨_, rfl⟩
              rw [← hxs] at hlong2 HMAP
              rw [hu8] at HMAP
              clear hxs hu8
              go_wp2_with (first | (at_builtin; refine wpList_append_own _ rfl (.tmp 76) (.tmp 78) 62 rfl w.heap.size 25 j0 (.slice none 0 0) 1 24 Tryd.underlying62 hj hy0 hy1 hy2 rfl (by decide) _ _ _ rfl (hlong2.alloc _) ⟨wr.heap.size, 0, none⟩ 1 1 [.slice a7 T c7] rfl rfl (news1' _ _ _) (by intro u hu; simp at hu; subst hu; rfl) (by unfold maxLen; omega) (by omega) (by simp; omega) ?_))
              intro v6 w6 ho6 hg6 _
              rw [HMAP.out] at ho6
              have HI3 : Hid (L2 K (.slice (some ⟨lb, 0, none⟩) n cl) n lb 0 B A C M (i + 1) G2 w w6) := by
                have hal := HI2.out.alloc HS.out (.cells #[.slice a7 T c7] 25)
                exact hal.long HS.out (hlong2.alloc _) hg6
              clear hg6 hlong2 HI2
              go_wp2
              go_roundw
              case rel => exact ⟨i + 1, G2, by omega, by go_num, ho6, HI3⟩
              case measure => simp [intOf]; omega
        · have hin' : i = n := by omega
          subst hin'
          clear hlt hin2
          have hni : ¬ ((i : Int) < (i : Int)) := by omega
          obtain ⟨la, lc, rfl⟩ := owns_shape hlong
          have hfin := HI.out.bel
          go_wp2
          have hBw : B ≤ wr.heap.size := Nat.le_trans HS.out.size hfin.size
          obtain ⟨wz, hwz⟩ : ∃ wz, wz = wr := ⟨_, rfl⟩
          rw [← hwz] at HI hlong hfin hBw kc ⊢
          clear hwz
          go_loopw [9] (fun ix wq => ∃ k : Nat, k ≤ i ∧ ix = .int .i64 k ∧ wq = wz) (fun ix _ => i - (intOf ix).toNat)
          case atStart => exact ⟨0, Nat.zero_le _, rfl, rfl⟩
          case round =>
            obtain ⟨k, hk, rfl, rfl⟩ := hrel
            by_cases hlk : k < i
            · have hrow := HI.out.row k hlk
              rw [Nat.zero_add] at hrow
              have hlon := HI.out.lon k hlk
              have hrd := (HI.out.rd k hlk).two
              have hMk := hM k
              obtain ⟨g, c', e2⟩ : ∃ g c', Value.slice la i lc = .slice (some ⟨g, 0, none⟩) i c' := by
                rcases hlong.2 with ⟨_, h0⟩ | ⟨g, cap, cur, h1, _⟩
                · omega
                · exact ⟨g, cap, h1⟩
              simp only [Value.slice.injEq, true_and] at e2
              obtain ⟨rfl, rfl⟩ := e2
              have hcl := hlong.cellAt k (by omega)
              rw [show ((List.range i).map G)[k]? = some (G k) by simp [hlk]] at hcl
              obtain ⟨gk, hgk⟩ : ∃ x, x = G k := ⟨_, rfl⟩
              rw [← hgk] at hcl hlon
              obtain ⟨a8, c8, rfl⟩ := owns_shape hlon
              have hrow2 : wr.cell? ⟨lb, k, none⟩ = some (.slice (A k) (M k) (C k)) := hrow
              obtain ⟨ak, hak⟩ : ∃ x, x = A k := ⟨_, rfl⟩
              obtain ⟨mk, hmk⟩ : ∃ x, x = M k := ⟨_, rfl⟩
              obtain ⟨ck, hck⟩ : ∃ x, x = C k := ⟨_, rfl⟩
              rw [← hak] at hrow2 hrd
              rw [← hmk] at hrow2 hrd hMk hlon hcl
              rw [← hck] at hrow2
              obtain ⟨x, hx⟩ : ∃ x, x = mark k := ⟨_, rfl⟩
              rw [← hx] at hlon hrd
              have hx2 : IntKind.i64.wrap (-1000 - (k : Int)) = x := by rw [hx]; exact mark_wrap k (by omega)
              have Q1 : Hid _ := only_any ak mk ck x wr hrd (by omega)
              have Q2 : Hid _ := only_any a8 (2 * mk + 9) c8 x wr (Rd.of hlon (Nat.le_refl _) rfl (own_head hlon)).two (by omega)
              obtain ⟨T, hT⟩ : ∃ T, T = 2 * mk + 9 := ⟨_, rfl⟩
              rw [← hT] at Q2 hcl
              clear hx hak hmk hck hgk hrow hlon hrd hT
              go_wp2_with fail
              refine Calls.mono Q1.out ?_
              rintro e w5 ⟨rfl, rfl⟩
              go_wp2_with fail
              refine Calls.mono Q2.out ?_
              rintro e w5 ⟨rfl, rfl⟩
              clear Q1 Q2
              go_wp2
              go_roundw
              case rel => exact ⟨k + 1, by omega, by go_num, trivial⟩
              case measure => simp [intOf]; omega
            · have hnk : ¬ ((k : Int) < (i : Int)) := by omega
              go_wp2
              go_ret
              exact ⟨rfl, HBU.out.trans hfin, (Ch.ofBelow HBU2.out).trans HI.out.ch (fun _ _ e => e)⟩
theorem getD_val (E : List BE) (j : Nat) (h : j < E.length) : E.getD j no = E[j] := by simp [List.getD, h]
set_option maxRecDepth 100000 in
set_option maxHeartbeats 1600000 in
theorem settle_none (w : World) (B K : Nat) (vL vW : Value) (h : ListsAt w B K vL vW []) (hB : B ≤ w.heap.size) :
    Calls Tryd.prog 46 #[.pointer (some ⟨K, 0, none⟩)] w fun e w' => e = .returned (.bool true) ∧ Below B w w' ∧ Ch (bB K vL vW []) w w' := by
  have Q : Hid _ := untouched_any w B K vL vW [] h (by simp)
  have HB : Hid _ := h
  obtain ⟨al, cl, aw, cw, e1, e2⟩ := h.len
  subst e1 e2
  clear h
  go_enter Tryd.func46, Tryd.ntmps46
  go_wp2_with fail
  refine Calls.mono Q.out ?_
  rintro e w1 ⟨rfl, hb⟩
  have c0 : w1.cell? ⟨K, 0, none⟩ = some (.slice al 0 cl) := (HB.out.below hb).c0
  have HBB : Hid (Below B w w1 ∧ Ch (bB K (.slice al 0 cl) (.slice aw 0 cw) []) w w1) := ⟨hb.mono hB, Ch.ofBelow hb⟩
  clear Q hb
  go_wp2
  go_loop [3] (fun ix => ix = .int .i64 0) (fun _ => 0)
  case atStart => rfl
  case round =>
    subst hrel
    go_wp2
    go_loop [6] (fun ix => ix = .int .i64 0) (fun _ => 0)
    case atStart => rfl
    case round =>
      subst hrel
      go_wp2
      go_loop [9] (fun ix => ix = .int .i64 0) (fun _ => 0)
      case atStart => rfl
      case round =>
        subst hrel
        go_wp2
        go_ret
        exact ⟨rfl, HBB.out.1, HBB.out.2⟩
theorem settle_ch (w : World) (B K : Nat) (vL vW : Value) (E : List BE) (h : ListsAt w B K vL vW E) (hE : E.length ≤ 1000000) (hB : B ≤ w.heap.size) :
    Calls Tryd.prog 46 #[.pointer (some ⟨K, 0, none⟩)] w fun e w' => e = .returned (.bool true) ∧ Below B w w' ∧ Ch (bB K vL vW E) w w' := by
  by_cases h0 : E = []
  · subst h0
    exact settle_none w B K vL vW h hB
  have hpos : 0 < E.length := by
    cases E with
    | nil => exact absurd rfl h0
    | cons _ _ => simp
  obtain ⟨lb, cl, gw, cw, e1, _, _⟩ := h.at 0 hpos
  have h65 : ∀ j, (E.getD j no).l.length ≤ 65535 := fun j => by
    by_cases hj : j < E.length
    · rw [getD_val E j hj]; exact h.b256 _ (List.getElem_mem hj)
    · simp [List.getD, hj, no]
  refine (settle_walk K E.length lb cl B vL (fun j => (E.getD j no).a) (fun j => (E.getD j no).c) (fun j => (E.getD j no).l.length) (fun j => (E.getD j no).l) w e1 (fun x hx => ?_) hB h65 hE (untouched_any w B K vL vW E h hE)).mono (fun e w' k => ⟨k.1, k.2.1, k.2.2.mono (fun q _ e => ?_)⟩)
  rotate_left
  · obtain ⟨j, hj, e⟩ := e
    have e2 : (E.getD j no).v.ownBlock = some q := e
    rw [getD_val E j hj] at e2
    exact .inr (.inr (.inr ⟨_, List.getElem_mem hj, .inl e2⟩))
  have h' := h.below hx
  have hown : ∀ j, j < E.length → OwnO x B (E.getD j no).v (E.getD j no).l.length (E.getD j no).l := fun j hj => by
    rw [getD_val E j hj]; exact h'.own _ (List.getElem_mem hj)
  have hlb : vL.ownBlock = some lb := by rw [e1]; rfl
  have hg := (h'.oL.lt lb hlb).2
  refine ⟨⟨fun j hj => ?_, (h'.lt K (.inl rfl)).2, fun i j hi hj hne => ?_, fun j hj => ?_, fun j hj => own_head (hown j hj), fun j hj q hq => (hown j hj).lt q hq, hg, Nat.le_trans hB hx.size⟩, h'.c0, fun j hj => ?_, hown, Below.refl _ _, Ch.refl _ _⟩
  · show (E.getD j no).v.ownBlock ≠ some K
    rw [getD_val E j hj]; exact (h'.nK _ (List.getElem_mem hj)).1
  · show R (E.getD i no).v (E.getD j no).v
    rw [getD_val E i hi, getD_val E j hj]
    have hp := List.pairwise_iff_getElem.1 h'.dis
    rcases Nat.lt_or_ge i j with hlt | hge
    · have := hp i j (by simpa using hi) (by simpa using hj) hlt
      rw [List.getElem_map, List.getElem_map] at this
      exact this
    · have := hp j i (by simpa using hj) (by simpa using hi) (by omega)
      rw [List.getElem_map, List.getElem_map] at this
      exact R.symm this
  · show (E.getD j no).v.ownBlock ≠ some lb
    rcases apart' (hown j hj) h'.oL (by decide) with e | e
    · rw [e]; simp
    · rw [hlb] at e; exact e
  · have ho := h'.oL
    rw [e1] at ho
    rw [Nat.zero_add, ho.cellAt j (by omega)]
    show _ = some (E.getD j no).v
    rw [getD_val E j hj]
    simp [hj]
theorem settle_any (w : World) (B K : Nat) (vL vW : Value) (E : List BE) (h : ListsAt w B K vL vW E) (hE : E.length ≤ 1000000) (hB : B ≤ w.heap.size) :
    Calls Tryd.prog 46 #[.pointer (some ⟨K, 0, none⟩)] w fun e w' => e = .returned (.bool true) ∧ Below B w w' :=
  (settle_ch w B K vL vW E h hE hB).mono (fun _ _ k => ⟨k.1, k.2.1⟩)
end Go.Proofs.YtdinhgfkpjaipaaDoor.Ll
namespace Go.Proofs.YtdinhgfkpjaipaaDoor.Ag6
open Go.RowKit

/-- what lies there between two calls: the desk holds l, the copy holds m -/
structure St (w wr : World) (B D g M K n : Nat) (l m : List Nat) (vN vL vW : Value) (E : List Ll.BE) : Prop where
  desk : Dk.DeskAt wr B D (some ⟨g, 0, none⟩) M n (toI (Dk.dk l M))
  now : wr.ownsRow B 5 1 vN n ((toI m).map (Value.int .u8))
  lists : Ll.ListsAt wr B K vL vW E
  len : l.length = n
  lem : m.length = n
  le : n ≤ M
  b256 : ∀ x ∈ l, x < 256
  b256m : ∀ x ∈ m, x < 256
  nN : ∀ q, vN.ownBlock = some q → q ≠ g ∧ q ≠ D ∧ ¬ Ll.bB K vL vW E q
  nL : ∀ q, Ll.bB K vL vW E q → q ≠ g ∧ q ≠ D
  bel : Below B w wr
  hB : B ≤ wr.heap.size
  pos : 0 < B
  wid : Wid wr
variable {w wr wx : World} {B D g M K n : Nat} {l m : List Nat} {vN vL vW : Value} {E : List Ll.BE}
theorem St.gB (h : St w wr B D g M K n l m vN vL vW E) : B ≤ g ∧ g < wr.heap.size := h.desk.own.lt g rfl
theorem St.gD (h : St w wr B D g M K n l m vN vL vW E) : g ≠ D := h.desk.nD g rfl
theorem St.DB (h : St w wr B D g M K n l m vN vL vW E) : B ≤ D ∧ D < wr.heap.size := ⟨h.desk.hD, World.block_lt_of_cell? wr ⟨D, 0, none⟩ h.desk.c0⟩
theorem St.below (h : St w wr B D g M K n l m vN vL vW E) (b : Below wr.heap.size wr wx) : St w wx B D g M K n l m vN vL vW E :=
  { h with desk := h.desk.below b, now := owns_below h.now b, lists := h.lists.below b, bel := h.bel.trans (b.mono h.hB), hB := Nat.le_trans h.hB b.size, wid := h.wid.old b }
theorem dB_g {q : Nat} (h : Dk.dB D (some ⟨g, 0, none⟩) q) : q = D ∨ q = g := by
  rcases h with h | ⟨y, e, h⟩
  · exact .inl h
  · cases e; exact .inr h.symm
/-- a list is kept -/
theorem St.keep {vL' vW' : Value} {e : Ll.BE} (h : St w wr B D g M K n l m vN vL vW E) (k : Ll.Kept wr wx B K vL vW vL' vW' E e) (he : ∀ q, e.v.ownBlock = some q → q ≠ g ∧ q ≠ D ∧ vN.ownBlock ≠ some q) : St w wx B D g M K n l m vN vL' vW' (E ++ [e]) := by
  have gB := h.gB
  have DB := h.DB
  have nl : ∀ q, Ll.bB K vL' vW' (E ++ [e]) q → q ≠ g ∧ q ≠ D := fun q hq => by
    rcases k.new q hq with o | o | o
    · exact h.nL q o
    · exact ⟨(he q o).1, (he q o).2.1⟩
    · omega
  have hS : ∀ q, Ll.bB K vL vW E q → B ≤ q := fun q hq => (h.lists.lt q hq).1
  exact { desk := h.desk.ch k.ch (fun q hq hb => by
            rcases dB_g hq with rfl | rfl
            · exact (h.nL _ hb).2 rfl
            · exact (h.nL _ hb).1 rfl),
          now := k.ch.owns h.now (fun q hq => (h.nN q hq).2.2), lists := k.bk, len := h.len, lem := h.lem, le := h.le, b256 := h.b256, b256m := h.b256m,
          nN := fun q hq => ⟨(h.nN q hq).1, (h.nN q hq).2.1, fun hb => by
            rcases k.new q hb with o | o | o
            · exact (h.nN q hq).2.2 o
            · exact (he q o).2.2 hq
            · have := (h.now.lt q hq).2; omega⟩,
          nL := nl, bel := h.bel.trans (k.ch.below hS h.hB), hB := Nat.le_trans h.hB k.ch.size, pos := h.pos,
          wid := h.wid.ch k.ch (fun hb => by have := hS 0 hb; have := h.pos; omega) }
/-- the buffer's bytes are others -/
theorem St.buf {l' : List Nat} (h : St w wr B D g M K n l m vN vL vW E) (k : Ch (fun q => q = g) wr wx) (ho : wx.ownsRow B 5 1 (.slice (some ⟨g, 0, none⟩) M M) M ((toI (Dk.dk l' M)).map (Value.int .u8))) (hl : l'.length = n) (h2 : ∀ x ∈ l', x < 256) : St w wx B D g M K n l' m vN vL vW E := by
  have gB := h.gB
  exact { desk := ⟨k.cell h.desk.c0 (fun e => h.gD e.symm), k.cell h.desk.c1 (fun e => h.gD e.symm), fun j => (k.frozen (p := ⟨D, j, none⟩) h.DB.2 (fun e => h.gD e.symm)).trans (h.desk.fz j), ho, h.desk.nD, h.desk.hD, h.desk.hN⟩,
          now := k.owns h.now (fun q hq => (h.nN q hq).1), lists := h.lists.ch k (fun q hq => (h.nL q hq).1), len := hl, lem := h.lem, le := h.le, b256 := h2, b256m := h.b256m, nN := h.nN, nL := h.nL,
          bel := h.bel.trans (k.below (fun x e => by rw [e]; exact gB.1) h.hB), hB := Nat.le_trans h.hB k.size, pos := h.pos, wid := h.wid.ch k (fun e => by have := h.pos; omega) }
/-- the copy is another -/
theorem St.renew {m' : List Nat} {vN' : Value} {s : Nat} (h : St w wr B D g M K n l m vN vL vW E) (b : Below wr.heap.size wr wx) (ho : wx.ownsRow s 5 1 vN' n ((toI m').map (Value.int .u8))) (hs : wr.heap.size ≤ s) (hl : m'.length = n) (h2 : ∀ x ∈ m', x < 256) : St w wx B D g M K n l m' vN' vL vW E := by
  have hx := h.below b
  have gB := h.gB
  have DB := h.DB
  exact { hx with
          now := owns_mono ho (Nat.le_trans h.hB hs), lem := hl, b256m := h2,
          nN := fun q hq => by
            have := (ho.lt q hq).1
            exact ⟨by omega, by omega, fun hb => by have := (h.lists.lt q hb).2; omega⟩ }
theorem dk_set (l : List Nat) (M k y : Nat) (h : k < l.length) : (Dk.dk l M).set k y = Dk.dk (l.set k y) M := by
  unfold Dk.dk
  rw [List.set_append_left _ _ h, List.length_set]
theorem set_256 {l : List Nat} {k y : Nat} (h : ∀ x ∈ l, x < 256) (hy : y < 256) : ∀ x ∈ l.set k y, x < 256 := fun x hx => by
  rcases List.mem_or_eq_of_mem_set hx with e | e
  · exact h x e
  · omega
theorem setI (l : List Nat) (k y : Nat) : (toI l).set k ((y : Nat) : Int) = toI (l.set k y) := by simp [toI, List.map_set]
/-- one byte of the buffer -/
theorem St.put (h : St w wr B D g M K n l m vN vL vW E) (k y : Nat) (hk : k < n) (hy : y < 256) : (∃ z : Int, wr.cell? ⟨g, k, none⟩ = some (.int .u8 z)) ∧ wr.frozen? ⟨g, k, none⟩ = false ∧ St w (wr.setCell ⟨g, k, none⟩ (.int .u8 ((y : Nat) : Int))) B D g M K n (l.set k y) m vN vL vW E := by
  have hM := h.le
  obtain ⟨g2, hg2, z, cz, fz, NX⟩ := Dk.xor_step h.desk.own k (by omega)
  have e2 : g2 = g := by simpa using hg2.symm
  subst e2
  obtain ⟨n1, n2⟩ := NX (.int .u8 ((y : Nat) : Int)) _ rfl
  rw [setI, dk_set l M k y (by rw [h.len]; exact hk)] at n1
  exact ⟨⟨z, cz⟩, fz, h.buf n2 n1 (by simp [h.len]) (set_256 h.b256 hy)⟩
/-- one byte of the copy -/
theorem St.put2 {a : Option Addr} {c : Nat} (h : St w wr B D g M K n l m (.slice a n c) vL vW E) (k y : Nat) (hk : k < n) (hy : y < 256) : ∃ q, a = some ⟨q, 0, none⟩ ∧ (∃ z : Int, wr.cell? ⟨q, k, none⟩ = some (.int .u8 z)) ∧ wr.frozen? ⟨q, k, none⟩ = false ∧ St w (wr.setCell ⟨q, k, none⟩ (.int .u8 ((y : Nat) : Int))) B D g M K n l (m.set k y) (.slice a n c) vL vW E := by
  obtain ⟨q, hq, z, cz, fz, NX⟩ := Dk.xor_step h.now k hk
  subst hq
  obtain ⟨n1, n2⟩ := NX (.int .u8 ((y : Nat) : Int)) _ rfl
  rw [setI] at n1
  have hn := h.nN q rfl
  have qB := h.now.lt q rfl
  refine ⟨q, rfl, ⟨z, cz⟩, fz, ?_⟩
  exact { h with
          desk := h.desk.ch n2 (fun x hx e => by
            have e' : x = q := e
            rcases dB_g hx with o | o
            · exact hn.2.1 (e'.symm.trans o)
            · exact hn.1 (e'.symm.trans o)),
          now := n1, lists := h.lists.ch n2 (fun x hx e => hn.2.2 (by have e' : x = q := e; rw [← e']; exact hx)), lem := by simp [h.lem], b256m := set_256 h.b256m hy,
          bel := h.bel.trans (n2.below (fun x e => by rw [e]; exact qB.1) h.hB), hB := Nat.le_trans h.hB n2.size, wid := h.wid.ch n2 (fun e => by have := h.pos; have e' : 0 = q := e; omega) }
/-- the handed out list, as Lists keeps it -/
def oes (a : Option Addr) (ops : List I4.Op4) : List Ll.OE := ops.map (fun o => ⟨((o.k : Nat) : Int), cutA a o.p o.n, o.n, o.n⟩)
theorem oes_cells (a : Option Addr) (ops : List I4.Op4) : Ll.osC (oes a ops) = opsC a ops := by
  simp only [Ll.osC, oes, opsC, List.flatMap_map]
  rfl
end Go.Proofs.YtdinhgfkpjaipaaDoor.Ag6
namespace Go.Proofs.YtdinhgfkpjaipaaDoor.Ag6
open Go.RowKit
open I4 (H4 scan)

/-- the datagram that is answered -/
def pP (bs : List Nat) : H4 := if I4.pE bs = 0 then I4.pH bs else h4z
theorem h4z_ok (w : World) : H4Ok w h4z none 0 0 [] none 0 0 :=
  ⟨fun _ _ => (by decide : (0 : Nat) < 256), fun _ _ => (by decide : (0 : Nat) < 256), rfl, .inl rfl, rfl, by decide, rfl, .inl rfl, (fun x hx => by simp [h4z] at hx), Nat.le_refl _, by decide, by decide⟩
theorem par_40 {w : World} {bs : List Nat} {lb : Option Addr} {K lc : Nat} {ps : List OpV} {va : Option Addr} {vn vc : Nat} (t : I4.Taken bs) (h256 : ∀ x ∈ bs, x < 256) (k : H4Ok w (I4.pH bs) lb K lc ps va vn vc) : K ≤ 65535 := by
  have h1 := t.flat h256
  have h5 := I4.hdL_le bs
  have h3 := congrArg List.length k.hos
  simp only [vals, List.length_map] at h3
  have key : ∀ l : List (Int × List Nat), l.length ≤ (I4.flatI l).length := by
    intro l
    unfold I4.flatI
    induction l with
    | nil => simp [I4.flatO]
    | cons o l ih => rw [List.map_cons, I4.flatO_cons, List.length_cons]; omega
  have h4 := key (I4.pH bs).os
  have h2 := k.ol
  omega
/-- what Parse answers -/
structure PU (w : World) (bs : List Nat) (e : Ending) (w' : World) (la : Option Addr) (K lc : Nat) (os : List OpV) (da : Option Addr) (dn dc : Nat) (oe : List Ll.OE) : Prop where
  eq : e = .returned (.tuple #[.agg (h4C (pP bs) (.slice la K lc) (.slice da dn dc)), .int .i64 (I4.pE bs : Nat)])
  ok : H4Ok w' (pP bs) la K lc os da dn dc
  own : Ll.OwnO w' w.heap.size (.slice la K lc) K oe
  len : oe.length = K
  le : K ≤ 65535
theorem parse_u (a : Option Addr) (cap n : Nat) (bs : List Nat) (w : World) (hn : bs.length = n) (hw : Wid w) (hb : Seg .u8 w a (toI bs)) (h256 : ∀ x ∈ bs, x < 256) (h2 : n ≤ cap) (h3 : cap ≤ 9223372036854775807) :
    Calls Tryd.prog 20 #[.slice a n cap] w fun e w' => Below w.heap.size w w' ∧ ∃ la K lc os da dn dc oe, PU w bs e w' la K lc os da dn dc oe := by
  refine (parse_two a cap n bs w hn hw hb h256 h2 h3).mono ?_
  rintro e w' ⟨C, rfl, hbel, hr⟩
  refine ⟨hbel, ?_⟩
  rcases hr with ⟨h0, rfl⟩ | ⟨h0, hr⟩
  · have e : pP bs = h4z := by unfold pP; rw [if_neg h0]
    exact ⟨none, 0, 0, [], none, 0, 0, [], by rw [e], by rw [e]; exact h4z_ok w', World.ownsRow_nil _ _ _ _, rfl, by decide⟩
  · have e : pP bs = I4.pH bs := by unfold pP; rw [if_pos h0]
    obtain ⟨la, K, lc, os, rfl, hok, hown⟩ := hr.ex
    rw [← oes_cells] at hown
    have hl : (oes (optA a) (I4.opsB bs)).length = K := Ll.OwnO.len hown
    exact ⟨la, K, lc, os, _, _, _, _, by rw [e], by rw [e]; exact hok, hown, hl, par_40 hr.tk h256 hok⟩
theorem rparse_u (a : Option Addr) (n cap : Nat) (bs : List Nat) (w : World) (hn : bs.length = n) (hs : Seg .u8 w a (toI bs)) (h256 : ∀ x ∈ bs, x < 256) (h2 : n ≤ cap) (h3 : cap ≤ 9223372036854775807) (hm : n ≤ 1048576) :
    Calls Tryd.prog 36 #[.slice a n cap] w fun e w' => Below w.heap.size w w' ∧ ∃ lb K lc ps va vn vc, e = .returned (.tuple #[.agg (h4C (pP bs) (.slice lb K lc) (.slice va vn vc)), .int .i64 (I4.pE bs : Nat)]) ∧ H4Ok w' (pP bs) lb K lc ps va vn vc := by
  refine (rparse_any a n cap bs w hn hs h256 h2 h3 hm).mono ?_
  rintro e w' ⟨hbel, hr⟩
  refine ⟨hbel, ?_⟩
  rcases hr with ⟨h0, rfl⟩ | ⟨h0, lb, K, lc, ps, va, vn, vc, rfl, hok⟩
  · have e : pP bs = h4z := by unfold pP; rw [if_neg h0]
    exact ⟨none, 0, 0, [], none, 0, 0, by rw [e], by rw [e]; exact h4z_ok w'⟩
  · have e : pP bs = I4.pH bs := by unfold pP; rw [if_pos h0]
    exact ⟨lb, K, lc, ps, va, vn, vc, by rw [e, h0]; rfl, by rw [e]; exact hok⟩
theorem same_u {w : World} {P : H4} {la lb da va : Option Addr} {K lc K2 lc2 dn dc vn vc : Nat} {os ps : List OpV} (h1 : H4Ok w P la K lc os da dn dc) (h2 : H4Ok w P lb K2 lc2 ps va vn vc) :
    Calls Tryd.prog 21 #[.agg (h4C P (.slice la K lc) (.slice da dn dc)), .agg (h4C P (.slice lb K2 lc2) (.slice va vn vc))] w fun e w' => e = .returned (.bool true) ∧ Below w.heap.size w w' := by
  have hv : vals os = vals ps := h1.hos.symm.trans h2.hos
  have hK : K2 = K := by
    have h := congrArg List.length hv
    simp only [vals, List.length_map] at h
    rw [h2.ol, h1.ol] at h
    exact h.symm
  have hvn : vn = dn := h2.dl.symm.trans h1.dl
  subst hK hvn
  exact same_true P la lb da va K2 lc lc2 vn dc vc os ps P.data w h1.opts h2.opts h1.ol hv h1.on h1.dl h1.seg h2.seg h1.d256
/-- the number that Options answers, and the options' values -/
def oE (bs : List Nat) : Nat := if 40 < bs.length ∨ scan bs 0 = none then 65 else 0
def oV (bs : List Nat) : List (Int × List Nat) := if 40 < bs.length then [] else match scan bs 0 with | some ops => ops.map (fun o => I4.intO (I4.ov bs o)) | none => []
theorem oE_no {bs : List Nat} (h : 40 < bs.length ∨ scan bs 0 = none) : oE bs = 65 ∧ oV bs = [] := by
  refine ⟨by unfold oE; rw [if_pos h], ?_⟩
  unfold oV
  rcases h with h | h
  · rw [if_pos h]
  · rw [h]; split <;> rfl
theorem oE_yes {bs : List Nat} {ops : List I4.Op4} (h : bs.length ≤ 40) (hs : scan bs 0 = some ops) : oE bs = 0 ∧ oV bs = ops.map (fun o => I4.intO (I4.ov bs o)) := by
  refine ⟨by unfold oE; rw [if_neg (by rw [hs]; simp; omega)], ?_⟩
  unfold oV
  rw [if_neg (by omega), hs]
theorem options_u (a : Option Addr) (cap n : Nat) (bs : List Nat) (w : World) (hn : bs.length = n) (hb : Seg .u8 w a (toI bs)) (h256 : ∀ x ∈ bs, x < 256) (h2 : n ≤ cap) (h3 : cap ≤ 9223372036854775807) :
    Calls Tryd.prog 38 #[.slice a n cap] w fun e w' => Below w.heap.size w w' ∧ ∃ la K lc os oe, e = .returned (.tuple #[.slice la K lc, .int .i64 (oE bs : Nat)]) ∧ OptsAt w' la os ∧ List.length os = K ∧ vals os = oV bs ∧ Ll.OwnO w' w.heap.size (.slice la K lc) K oe ∧ List.length oe = K ∧ K ≤ 65535 := by
  refine (options_any a cap n bs w hn hb h256 h2 h3).mono ?_
  rintro e w' ⟨v, er, rfl, hbel, hr⟩
  refine ⟨hbel, ?_⟩
  rcases hr with ⟨h40, ops, hsc, rfl, hown⟩ | ⟨hno, rfl, rfl⟩
  · obtain ⟨la, lc, rfl⟩ := owns_shape hown
    obtain ⟨e1, e2⟩ := oE_yes h40 hsc
    obtain ⟨si, hfl⟩ := I4.scan_in bs 0 ops hsc (Nat.zero_le _) h256
    have hin : ∀ q ∈ ops, q.p + q.n ≤ bs.length := fun q hq => by have := si q hq; omega
    have hop : OptsAt w' la (ops.map (opV a bs)) := opts_of_own hown rfl (hb.old hbel) h256 hin (by omega)
    have hK : ops.length ≤ 40 := by
      have key : ∀ l : List I4.OV, l.length ≤ (I4.flatO l).length := by
        intro l
        induction l with
        | nil => simp [I4.flatO]
        | cons q l ih => rw [I4.flatO_cons, List.length_cons]; omega
      have h2 := key (ops.map (I4.ov bs))
      rw [List.length_map] at h2
      omega
    rw [← oes_cells] at hown
    exact ⟨la, ops.length, lc, _, oes a ops, by rw [e1]; rfl, hop, by simp, by rw [vals_opV, e2], hown, by simp [oes], by omega⟩
  · obtain ⟨e1, e2⟩ := oE_no hno
    exact ⟨none, 0, 0, [], [], by rw [e1]; rfl, .inl rfl, rfl, by rw [e2]; rfl, World.ownsRow_nil _ _ _ _, rfl, by decide⟩
theorem ropts_u (a : Option Addr) (n cap : Nat) (bs : List Nat) (w : World) (hn : bs.length = n) (hs : Seg .u8 w a (toI bs)) (h256 : ∀ x ∈ bs, x < 256) (h2 : n ≤ cap) :
    Calls Tryd.prog 39 #[.slice a n cap] w fun e w' => Below w.heap.size w w' ∧ ∃ lb K lc ps, e = .returned (.tuple #[.slice lb K lc, .int .i64 (oE bs : Nat)]) ∧ OptsAt w' lb ps ∧ List.length ps = K ∧ vals ps = oV bs := by
  refine (ropts_any a n cap bs w hn hs h256 h2).mono ?_
  rintro e w' ⟨hbel, hr⟩
  refine ⟨hbel, ?_⟩
  rcases hr with ⟨h40, ops, lb, lc, ps, hsc, rfl, hpl, hpv, hpo, _, _⟩ | ⟨hno, rfl⟩
  · obtain ⟨e1, e2⟩ := oE_yes h40 hsc
    exact ⟨lb, ops.length, lc, ps, by rw [e1]; rfl, hpo, hpl, by rw [e2, hpv]⟩
  · obtain ⟨e1, e2⟩ := oE_no hno
    exact ⟨none, 0, 0, [], by rw [e1]; rfl, .inl rfl, rfl, by rw [e2]; rfl⟩
end Go.Proofs.YtdinhgfkpjaipaaDoor.Ag6
namespace Go.Proofs.YtdinhgfkpjaipaaDoor.Ag6
open Go.RowKit

theorem fz_new (x : World) (cs : List Value) (t : TypeId) (j : Nat) : (x.alloc (.cells cs.toArray t)).frozen? ⟨x.heap.size, j, none⟩ = false := by
  rw [frozen?_alloc_cells]; simp [World.frozen?]
theorem desk_new (x : World) (B : Nat) (hs : B ≤ x.heap.size) : Dk.DeskAt (x.alloc (.cells #[.slice none 0 0, .int .i64 0] 60)) B x.heap.size none 0 0 [] := by
  refine ⟨?_, ?_, fun j => fz_new x [.slice none 0 0, .int .i64 0] _ j, ⟨rfl, .inl ⟨rfl, rfl⟩⟩, fun g hg => (by cases hg), hs, by decide⟩
  · have e := Bk.news_at x 60 [.slice none 0 0, .int .i64 0] 0 _ rfl; rwa [Addr.add_lit, Nat.zero_add] at e
  · have e := Bk.news_at x 60 [.slice none 0 0, .int .i64 0] 1 _ rfl; rwa [Addr.add_lit, Nat.zero_add] at e
theorem lists_new (x : World) (B : Nat) (hs : B ≤ x.heap.size) : Ll.ListsAt (x.alloc (.cells #[.slice none 0 0, .slice none 0 0] 64)) B x.heap.size (.slice none 0 0) (.slice none 0 0) [] := by
  refine ⟨?_, ?_, fun j => fz_new x [.slice none 0 0, .slice none 0 0] _ j, ⟨rfl, .inl ⟨rfl, rfl⟩⟩, ⟨rfl, .inl ⟨rfl, rfl⟩⟩, fun e he => by simp at he, fun e he => by simp at he, List.Pairwise.nil, fun e he => by simp at he, fun e he => by simp at he, ⟨by simp [Value.ownBlock], by simp [Value.ownBlock]⟩, .inl rfl, hs⟩
  · have e := Bk.news_at x 64 [.slice none 0 0, .slice none 0 0] 0 _ rfl; rwa [Addr.add_lit, Nat.zero_add] at e
  · have e := Bk.news_at x 64 [.slice none 0 0, .slice none 0 0] 1 _ rfl; rwa [Addr.add_lit, Nat.zero_add] at e
theorem st_new {w x w3 : World} {B g M n : Nat} {l : List Nat} {vN : Value} (hb : Below B w x) (hB : B ≤ x.heap.size) (h0 : 0 < B) (hw : Wid x) (hn : x.ownsRow B 5 1 vN n ((toI l).map (Value.int .u8))) (hl : l.length = n) (h256 : ∀ y ∈ l, y < 256)
    (LT : Dk.Lent (x.alloc (.cells #[.slice none 0 0, .int .i64 0] 60)) w3 x.heap.size x.heap.size none g M l) :
    St w (w3.alloc (.cells #[.slice none 0 0, .slice none 0 0] 64)) B x.heap.size g M w3.heap.size n l l vN (.slice none 0 0) (.slice none 0 0) [] := by
  have b1 : Below x.heap.size x (x.alloc (.cells #[.slice none 0 0, .int .i64 0] 60)) := (Below.refl _ _).alloc (Nat.le_refl _) _
  have z1 : (x.alloc (.cells #[.slice none 0 0, .int .i64 0] 60)).heap.size = x.heap.size + 1 := World.size_alloc _ _
  have kD : ∀ q, Dk.dB x.heap.size none q → q = x.heap.size := fun q hq => by
    rcases hq with e | ⟨y, e, _⟩
    · exact e
    · cases e
  have z3 := LT.ch.size
  have nD := LT.desk.nD g rfl
  have hg : x.heap.size < g := by
    rcases LT.old with e | e
    · exact absurd (kD g e) nD
    · omega
  have hgl := (LT.desk.own.lt g rfl).2
  have b2 : Below w3.heap.size w3 (w3.alloc (.cells #[.slice none 0 0, .slice none 0 0] 64)) := (Below.refl _ _).alloc (Nat.le_refl _) _
  have b3 : Below B (x.alloc (.cells #[.slice none 0 0, .int .i64 0] 60)) w3 := LT.ch.below (fun q hq => by rw [kD q hq]; exact hB) (by omega)
  have dk1 := LT.desk
  rw [hl] at dk1
  have dk0 : Dk.DeskAt w3 B x.heap.size (some ⟨g, 0, none⟩) M n (toI (Dk.dk l M)) := ⟨dk1.c0, dk1.c1, dk1.fz, owns_mono dk1.own hB, dk1.nD, hB, dk1.hN⟩
  have now3 : w3.ownsRow B 5 1 vN n ((toI l).map (Value.int .u8)) := LT.ch.owns (owns_below hn b1) (fun q hq e => by have h1 := (hn.lt q hq).2; have h2 := kD q e; omega)
  have w3w : Wid w3 := (hw.old b1).ch LT.ch (fun e => by have := kD 0 e; omega)
  have nb : ∀ q, Ll.bB w3.heap.size (.slice none 0 0) (.slice none 0 0) [] q → q = w3.heap.size := fun q hq => by
    rcases hq with e | e | e | ⟨e, he, _⟩
    · exact e
    · simp [Value.ownBlock] at e
    · simp [Value.ownBlock] at e
    · simp at he
  exact { desk := dk0.below b2, now := owns_below now3 b2, lists := lists_new w3 B (by omega), len := hl, lem := hl, le := by rw [← hl]; exact LT.le, b256 := h256, b256m := h256,
          nN := fun q hq => by
            have h1 := (hn.lt q hq).2
            exact ⟨by omega, by omega, fun hb => by have := nb q hb; omega⟩,
          nL := fun q hq => by have := nb q hq; constructor <;> omega,
          bel := (hb.trans ((b1.mono hB).trans b3)).trans (b2.mono (by omega)), hB := by have := b2.size; omega, pos := h0, wid := w3w.old b2 }
variable {w wr wx : World} {B D g M K n : Nat} {l m : List Nat} {vN vL vW : Value} {E : List Ll.BE}
theorem St.seg (h : St w wr B D g M K n l m vN vL vW E) : Seg .u8 wr (some ⟨g, 0, none⟩) (toI l) := Dk.seg_pre (owns_at h.desk.own).1
theorem St.cap (h : St w wr B D g M K n l m vN vL vW E) : M ≤ 2097664 := h.desk.hN
theorem St.back {a : Option Addr} {c : Nat} (h : St w wr B D g M K n l l (.slice a n c) vL vW E) : Calls Tryd.prog 41 #[.pointer (some ⟨D, 0, none⟩), .slice a n c] wr fun e w' => e = .returned (.bool true) ∧ Below wr.heap.size wr w' := by
  have hd := h.desk
  have e := h.len
  subst e
  exact Dk.back_any wr B D g M a c l hd h.le (owns_at h.now).1 h.b256
theorem hopL_len (bs : List Nat) (h256 : ∀ x ∈ bs, x < 256) : (hopL bs).length = bs.length ∧ ∀ x ∈ hopL bs, x < 256 := by
  unfold hopL
  split
  · exact ⟨I4.hop_len bs, I4.hop_256 bs h256⟩
  · exact ⟨rfl, h256⟩
theorem St.hop (h : St w wr B D g M K n l m vN vL vW E) : Calls Tryd.prog 28 #[.slice (some ⟨g, 0, none⟩) n M] wr fun e w' => e = .returned (.int .i64 (hopE l : Nat)) ∧ St w w' B D g M K n (hopL l) m vN vL vW E := by
  have hM := h.cap
  have hle := h.le
  have e : Dk.dk l M = l ++ ((List.range M).map Dk.bh).drop l.length := rfl
  refine (hopV_any (some ⟨g, 0, none⟩) M n M M B l (((List.range M).map Dk.bh).drop l.length) wr h.len (by rw [← e]; exact Dk.dk_len l M (by rw [h.len]; exact hle)) h.wid (by rw [← e]; exact h.desk.own) h.b256 hle (by omega)).mono ?_
  rintro e2 w' ⟨rfl, k, ho⟩
  obtain ⟨h1, h2⟩ := hopL_len l h.b256
  refine ⟨rfl, h.buf (k.mono (fun q _ hq => by simpa [Value.ownBlock] using hq.symm)) ?_ (by rw [h1]; exact h.len) h2⟩
  have e3 : Dk.dk (hopL l) M = hopL l ++ ((List.range M).map Dk.bh).drop l.length := by unfold Dk.dk; rw [h1]
  rw [e3]; exact ho
/-- a list that was handed out just now is kept -/
theorem St.kept {s : Nat} {a : Option Addr} {c k : Nat} {oe : List Ll.OE} (h : St w wr B D g M K n l m vN vL vW E) (ho : Ll.OwnO wr s (.slice a k c) k oe) (hl : oe.length = k) (hk : k ≤ 65535) (hE : E.length ≤ 1000) (hs : ∀ q, (Value.slice a k c).ownBlock = some q → q ≠ g ∧ q ≠ D ∧ vN.ownBlock ≠ some q ∧ ¬ Ll.bB K vL vW E q) (hsB : B ≤ s) :
    Calls Tryd.prog 42 #[.pointer (some ⟨K, 0, none⟩), .slice a k c] wr fun e w' => e = .returned (.tuple #[]) ∧ ∃ vL' vW' E', St w w' B D g M K n l m vN vL' vW' E' ∧ E'.length = E.length + 1 ∧ Ch (Ll.bB K vL vW E) wr w' ∧ ∀ q, Ll.bB K vL' vW' E' q → Ll.bB K vL vW E q ∨ (Value.slice a k c).ownBlock = some q ∨ wr.heap.size ≤ q := by
  subst hl
  have hf : ∀ q, (Value.slice a oe.length c).ownBlock = some q → ¬ Ll.bB K vL vW E q := fun q hq => (hs q hq).2.2.2
  refine (Ll.keep_any wr B K vL vW E h.lists (by omega) h.hB a c oe (owns_mono ho hsB) hk hf).mono ?_
  rintro e w' ⟨he, vL', vW', wa, wc, kp⟩
  exact ⟨he, vL', vW', _, h.keep kp (fun q hq => ⟨(hs q hq).1, (hs q hq).2.1, (hs q hq).2.2.1⟩), by simp, kp.ch, kp.new⟩
/-- blocks made since are none of its own -/
theorem St.fresh (h : St w wr B D g M K n l m vN vL vW E) (q : Nat) (hq : wr.heap.size ≤ q) : q ≠ g ∧ q ≠ D ∧ vN.ownBlock ≠ some q ∧ ¬ Ll.bB K vL vW E q := by
  have h1 := h.gB
  have h2 := h.DB
  exact ⟨by omega, by omega, fun e => by have := (h.now.lt q e).2; omega, fun e => by have := (h.lists.lt q e).2; omega⟩
end Go.Proofs.YtdinhgfkpjaipaaDoor.Ag6
