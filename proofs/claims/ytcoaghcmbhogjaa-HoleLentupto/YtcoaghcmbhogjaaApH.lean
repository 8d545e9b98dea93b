/-
  weirlaw2's Apart over layer 11's texts (Apart1 to Apart4, and the words of Sum2 and Sum3 that they use).
-/
import Derived.Test.YtcoaghcmbhogjaaKWc
import Derived.ArgAppend
import Derived.Maps.AppendAt
import Derived.Deep.DeepAppendRoom
import Derived.Deep.DeepCutAuto
import Derived.Test.YtcoaghcmbhogjaaMix
namespace Go.Proofs.Ytcoaghcmbhogjaa.Ap
open Go.RowKit
theorem seg_at {k : IntKind} {w : World} {a : Option Addr} {l : List Nat} (h : Seg k w a (toI l)) (i : Nat) (hi : i < l.length) : ∃ b off, a = some ⟨b, off, none⟩ ∧ ∀ j, j < l.length → w.cell? ⟨b, off + j, none⟩ = some (.int k ((l.getD j 0 : Nat) : Int)) := by
  rcases h with hnil | ⟨b, off, rfl, hc⟩
  · have := congrArg List.length hnil; rw [toI_len] at this; simp at this; subst this; simp at hi
  · refine ⟨b, off, rfl, fun j hj => ?_⟩
    have := hc j (by rw [toI_len]; exact hj)
    rwa [toI_getD] at this
structure Part where
  a : Option Addr
  cap : Nat
  l : List Nat
def Part.val (p : Part) : Value := .slice p.a p.l.length p.cap
def Part.ok (w : World) (p : Part) : Prop := Seg .u8 w p.a (toI p.l) ∧ (∀ x ∈ p.l, x < 256) ∧ p.l.length ≤ p.cap ∧ p.cap ≤ 9223372036854775807
theorem Part.ok.old {w w' : World} {p : Part} (h : p.ok w) (hb : Below w.heap.size w w') : p.ok w' := ⟨h.1.old hb, h.2⟩
theorem bthen {a b c : World} (h : Below a.heap.size a b) (k : Below b.heap.size b c) : Below a.heap.size a c := h.trans (k.mono h.size)
theorem below_new {w w' : World} {o : Obj} (h : Below (w.alloc o).heap.size (w.alloc o) w') : Below w.heap.size w w' := ((Below.refl _ _).alloc (Nat.le_refl _) _).trans (h.mono (by simp))
theorem below_grown {A B : World} (h : Below A.heap.size A B) (r : Option Nat) : A.grownBy B r := ⟨h.os, h.tape, h.output, h.size, fun k hk _ => h.block k hk⟩
theorem own_below {A B : World} {base : Nat} {e : TypeId} {v : Value} {m : Nat} {xs : List Value} (h : A.ownsRow base e 1 v m xs) (hB : Below A.heap.size A B) : B.ownsRow base e 1 v m xs :=
  h.kept (below_grown hB none) (by cases hv : v.ownBlock <;> simp)
theorem owns_seg {w : World} {base : Nat} {e : TypeId} {v : Value} {n : Nat} {k : IntKind} {zs : List Int} (h : w.ownsRow base e 1 v n (zs.map (Value.int k))) :
    ∃ a c, v = .slice a n c ∧ Seg k w a zs ∧ zs.length = n ∧ n ≤ c ∧ c ≤ maxLen := by
  have hl : zs.length = n := by have := h.1; simpa using this
  rcases h.2 with ⟨rfl, rfl⟩ | ⟨g, cap, cur, rfl, hg, hh, hnc, hcm, r⟩
  · exact ⟨none, 0, rfl, .inl (List.eq_nil_of_length_eq_zero hl), hl, Nat.le_refl _, Nat.zero_le _⟩
  · refine ⟨_, _, rfl, .inr ⟨g, 0, rfl, ?_⟩, hl, hnc, hcm⟩
    intro i hi
    have := h.cellAt i (by omega)
    rw [Nat.zero_add, this]
    simp [List.getD, hi]
theorem owns_seg_at {w : World} {base : Nat} {e : TypeId} {g : Option Addr} {n c : Nat} {k : IntKind} {zs : List Int} (h : w.ownsRow base e 1 (.slice g n c) n (zs.map (Value.int k))) : Seg k w g zs ∧ n ≤ c ∧ c ≤ 9223372036854775807 := by
  obtain ⟨a, c', e1, hs, _, h1, h2⟩ := owns_seg h
  simp only [Value.slice.injEq, true_and] at e1
  rw [e1.1, e1.2]
  exact ⟨hs, h1, by unfold maxLen at h2; exact h2⟩
abbrev OwnB (w : World) (B : Nat) (v : Value) (n : Nat) (l : List Nat) : Prop := w.ownsRow B 5 1 v n ((toI l).map (Value.int .u8))
theorem OwnB.len {w : World} {B : Nat} {v : Value} {n : Nat} {l : List Nat} (h : OwnB w B v n l) : l.length = n := by have := h.1; simpa [toI] using this
theorem OwnB.below {A C : World} {B : Nat} {v : Value} {n : Nat} {l : List Nat} (h : OwnB A B v n l) (hB : Below A.heap.size A C) : OwnB C B v n l := own_below h hB
theorem OwnB.part {w : World} {B : Nat} {g : Option Addr} {n c : Nat} {l : List Nat} (h : OwnB w B (.slice g n c) n l) (h256 : ∀ x ∈ l, x < 256) : Part.ok w ⟨g, c, l⟩ := by
  obtain ⟨h1, h2, h3⟩ := owns_seg_at h
  exact ⟨h1, h256, by show l.length ≤ c; rw [h.len]; exact h2, h3⟩
end Go.Proofs.Ytcoaghcmbhogjaa.Ap
namespace Go.Proofs.Ytcoaghcmbhogjaa.Ap
open Go.RowKit

theorem infoBytes : (Try.prog.info? 22).map (fun i => (i.zero, i.size, i.bytes)) = some (some (.slice none 0 0), 1, 24) := by kernel_rfl
theorem kind {w : World} {B : Nat} {e : TypeId} {v : Value} {n : Nat} {xs : List Value} (h : w.ownsRow B e 1 v n xs) : ∀ g, v.ownBlock = some g → ∃ c, w.heap[g]? = some (.cells c e (0, 0)) := by
  intro g hg
  rcases h.2 with ⟨rfl, _⟩ | ⟨g', cap, cur, rfl, _, hh, _⟩
  · simp [Value.ownBlock] at hg
  · simp [Value.ownBlock] at hg; subst hg; exact ⟨cur, hh⟩
theorem apart {w : World} {B B' : Nat} {e e' : TypeId} {v v' : Value} {n n' : Nat} {xs xs' : List Value} (h : w.ownsRow B e 1 v n xs) (h' : w.ownsRow B' e' 1 v' n' xs') (hne : e ≠ e') : v.ownBlock = none ∨ v.ownBlock ≠ v'.ownBlock := by
  cases hv : v.ownBlock with
  | none => exact .inl rfl
  | some g =>
    refine .inr (fun hc => hne ?_)
    obtain ⟨c, hc1⟩ := kind h g hv
    obtain ⟨c', hc2⟩ := kind h' g hc.symm
    rw [hc1] at hc2
    simp at hc2
    exact hc2.2
theorem owns_le {w : World} {b b' : Nat} {e : TypeId} {v : Value} {n : Nat} {xs : List Value} (h : w.ownsRow b e 1 v n xs) (hb : b' ≤ b) : w.ownsRow b' e 1 v n xs := by
  refine ⟨h.1, ?_⟩
  rcases h.2 with h2 | ⟨g, cap, cur, rfl, hg, r⟩
  · exact .inl h2
  · exact .inr ⟨g, cap, cur, rfl, Nat.le_trans hb hg, r⟩
theorem gtrans {a b c : World} {r : Option Nat} (h : a.grownBy b r) (k : b.grownBy c r) : a.grownBy c r :=
  ⟨k.os.trans h.os, k.tape.trans h.tape, k.output.trans h.output, Nat.le_trans h.size k.size, fun i hi hr => (k.block i (Nat.lt_of_lt_of_le hi h.size) hr).trans (h.block i hi hr)⟩
/-- a write to a block that was not yet there -/
theorem gfar {a b c : World} {r s : Option Nat} (h : a.grownBy b r) (k : b.grownBy c s) (hs : ∀ q, s = some q → a.heap.size ≤ q) : a.grownBy c r :=
  ⟨k.os.trans h.os, k.tape.trans h.tape, k.output.trans h.output, Nat.le_trans h.size k.size, fun i hi hr => (k.block i (Nat.lt_of_lt_of_le hi h.size) (fun e => by have := hs i e.symm; omega)).trans (h.block i hi hr)⟩

/-- 'append(v, x...)': in the row where v lies, or in a new one: then v's row stays. -/
theorem append_split {P : Program} {w : World} {ops : Array Oper} {rest : List Oper} {o : Oper} {a : Act} {Q : Exit → Act → World → Prop} (hgd : o.guard = none) (s x : Operand) (t : TypeId)
    (ho : o.op = .call { callee := .builtin .append, args := #[s, x], argTypes := #[t, t] })
    (base : Nat) (e : TypeId) (i : TypeInfo) (z : Value) (bytes : Nat) (ht : P.underlying t = some (.slice e)) (hi : P.info? e = some i) (hz : i.zero = some z)
    (hsize : i.size = 1) (hby : i.bytes = bytes) (hzs : z.cells.size = 1)
    (v : Value) (n : Nat) (xs : List Value) (hs : a.eval s = v) (hown : w.ownsRow base e 1 v n xs)
    (ad : Addr) (m c : Nat) (news : List Value) (hx : a.eval x = .slice (some ad) m c) (hl : news.length = m * 1) (hnews : ∀ j u, news[j]? = some u → w.cell? (ad.add j) = some u) (h1 : ∀ u ∈ news, u.oneCell' = true)
    (h63 : n + m ≤ maxLen) (hbytes : (n + m) * bytes ≤ 140737488355328) (hbase : base ≤ w.heap.size)
    (h : ∀ v' w', w'.ownsRow base e 1 v' (n + m) (xs ++ news) → ((w.grownBy w' none ∧ ∀ q, v'.ownBlock = some q → w.heap.size ≤ q) ∨ (w.grownBy w' v.ownBlock ∧ v'.ownBlock = v.ownBlock ∧ v.ownBlock ≠ none)) → wpList P ops Q rest (a.put o.dst v') w') : wpList P ops Q (o :: rest) a w := by
  rcases hown.2 with ⟨rfl, rfl⟩ | ⟨g, cap, cur, rfl, hbg, hg, hnc, hcm, hcs, htake⟩
  · have hx0 : xs = [] := List.eq_nil_of_length_eq_zero (by simpa using hown.1)
    subst hx0
    refine wpList_append_own_at w hgd s x t ho w.heap.size e i z 1 bytes ht hi hz hsize hby hzs (by decide) (.slice none 0 0) 0 [] hs (World.ownsRow_nil _ _ _ _) ad m c news hx hl hnews h1 h63 hbytes (Nat.le_refl _) ?_
    intro v' w' r1 r2 _ _
    exact h v' w' (owns_le r1 hbase) (.inl ⟨r2, fun q hq => (r1.lt q hq).1⟩)
  · by_cases hroom : n + m ≤ cap
    · refine wpList_append_own_spare w hgd s x t ho base e i 1 ht hi hsize g n cap xs hs hown ad m c news hx hl hnews h1 hroom ?_
      intro w' r1 r2
      exact h _ w' r1 (.inr ⟨r2, rfl, by simp [Value.ownBlock]⟩)
    · refine wpList_plain hgd fun K hK => ?_
      obtain ⟨v', w', hrun, r1, r2⟩ := run_append_arg_grows (P := P) w t o.type e i z 1 bytes ht hi hz hsize hby hzs (by decide) ⟨g, 0, none⟩ n cap xs hown.1 (hown.cells rfl) ad m c news hl hnews (by omega) h63 hbytes
      unfold Oper.wp
      simp [execOp, ho, resolve, invoke, builtin, hs, hx, hrun, Result.andThen]
      exact hK _ _ (h v' w' (owns_le r1 hbase) (.inl ⟨r2, fun q hq => (r1.lt q hq).1⟩))

def mark (i : Nat) : Nat := i % 200 + 40
def rp (n x : Nat) : List Nat := List.replicate n x
def full (c k : Nat) (l : List Nat) : List Nat := List.replicate k c ++ l.drop k
theorem full_set (c k : Nat) (l : List Nat) (h : k < l.length) : (full c k l).set k c = full c (k + 1) l := by
  unfold full
  rw [List.set_append_right _ _ (by simp), List.length_replicate, Nat.sub_self, List.drop_eq_getElem_cons h, List.set_cons_zero, List.replicate_succ']
  simp
theorem full_all (c n : Nat) (l : List Nat) (h : l.length = n) : full c n l = rp n c := by subst h; simp [full, rp]
theorem full_zero (c : Nat) (l : List Nat) : full c 0 l = l := by simp [full]
theorem rp_succ (n x : Nat) : (toI (rp n x)).map (Value.int .u8) ++ [Value.int .u8 (x : Int)] = (toI (rp (n + 1) x)).map (Value.int .u8) := by
  unfold rp; rw [List.replicate_succ']; simp [toI]
/-- 70 and the lengths of the first i -/
def tot (M : Nat → Nat) : Nat → Nat
  | 0 => 70
  | i + 1 => tot M i + M i
theorem tot_mono (M : Nat → Nat) {i j : Nat} (h : i ≤ j) : tot M i ≤ tot M j := by
  induction h with
  | refl => exact Nat.le_refl _
  | step _ ih => exact Nat.le_trans ih (by simp [tot])
theorem tot_ge (M : Nat → Nat) (i : Nat) : 70 ≤ tot M i := tot_mono M (Nat.zero_le i)
theorem len_le (M : Nat → Nat) {i n : Nat} (h : i < n) : M i ≤ tot M n := Nat.le_trans (by simp [tot]) (tot_mono M (show i + 1 ≤ n from h))

/-- a row of bytes that can be read, full of one mark -/
def Rd (w : World) (a : Option Addr) (n x : Nat) : Prop := n = 0 ∨ ∃ g, a = some ⟨g, 0, none⟩ ∧ (∃ c, w.heap[g]? = some (.cells c 5 (0, 0))) ∧ ∀ k, k < n → w.cell? ⟨g, k, none⟩ = some (.int .u8 (x : Int))
theorem Rd.keep {w w' : World} {a : Option Addr} {n x : Nat} {r : Option Nat} (h : Rd w a n x) (hg : w.grownBy w' r) (hne : ∀ g, a = some ⟨g, 0, none⟩ → some g ≠ r) : Rd w' a n x := by
  rcases h with h | ⟨g, rfl, ⟨c, hc⟩, h⟩
  · exact .inl h
  · refine .inr ⟨g, rfl, ⟨c, ?_⟩, fun k hk => hg.cell (h k hk) (hne g rfl)⟩
    rw [hg.block g (Array.getElem?_eq_some_iff.1 hc).1 (hne g rfl)]
    exact hc
theorem Rd.of {w : World} {B : Nat} {a a' : Option Addr} {n n' c c' x : Nat} (h : OwnB w B (.slice a' n' c') n' (rp n' x)) (hn : n ≤ n') (ha : (Value.slice a n c).ownBlock = (Value.slice a' n' c').ownBlock) (hz : ∀ y, a = some y → y = ⟨y.block, 0, none⟩) : Rd w a n x := by
  by_cases h0 : n = 0
  · exact .inl h0
  · rcases h.2 with ⟨_, h1⟩ | ⟨g, cap, cur, hv, hg, hh, r⟩
    · omega
    · have hv' := hv
      simp only [Value.slice.injEq, true_and] at hv
      obtain ⟨rfl, rfl⟩ := hv
      cases a with
      | none => simp [Value.ownBlock] at ha
      | some y =>
        have := hz y rfl
        simp only [Value.ownBlock, Option.some.injEq] at ha
        rw [ha] at this
        subst this
        refine .inr ⟨g, rfl, ⟨cur, hh⟩, fun k hk => ?_⟩
        rw [h.cellAt k (by omega)]
        simp [toI, rp, show k < n' by omega]
theorem Rd.seg {w : World} {a : Option Addr} {n x : Nat} (h : Rd w a n x) : Seg .u8 w a (toI (rp n x)) := by
  rcases h with rfl | ⟨g, rfl, _, h⟩
  · exact .inl rfl
  · refine .inr ⟨g, 0, rfl, fun k hk => ?_⟩
    have hk' : k < n := by simpa [toI, rp] using hk
    rw [Nat.zero_add, h k hk']
    simp [toI, rp, List.getD, hk']
end Go.Proofs.Ytcoaghcmbhogjaa.Ap
namespace Go.Proofs.Ytcoaghcmbhogjaa.Ap
open Go.RowKit

theorem full_any (a : Option Addr) (n c x : Nat) (w : World) (hs : Seg .u8 w a (toI (rp n x))) (hn : n ≤ 9223372036854775807) :
    Calls Try.prog 47 #[.slice a n c, .int .u8 (x : Int)] w fun e w' => e = .returned (.bool true) ∧ w = w' := by
  go_enter Try.func47, Try.ntmps47
  go_wp2
  go_loop [5] (fun ix => ∃ k : Nat, k ≤ n ∧ ix = .int .i64 k) (fun ix => n - (intOf ix).toNat)
  case atStart => exact ⟨0, by omega, rfl⟩
  case round =>
    obtain ⟨k, hk, rfl⟩ := hrel
    by_cases hlt : k < n
    · obtain ⟨b, off, rfl, hc⟩ := seg_at hs k (by simp [rp]; exact hlt)
      have cc := hc k (by simp [rp]; exact hlt)
      rw [show (rp n x).getD k 0 = x by simp [rp, List.getD, hlt]] at cc
      clear hc hs
      go_wp2
      go_round
      case rel => exact ⟨k + 1, by omega, by go_num⟩
      case measure => simp [intOf]; omega
    · go_wp2
      go_ret
      exact ⟨rfl, rfl⟩

abbrev vv (A : Nat → Option Addr) (C M : Nat → Nat) (j : Nat) : Value := .slice (A j) (M j) (C j)
/-- what does not change: the lists lie apart, among the call's own, at the head of their blocks -/
def FB (n : Nat) (A : Nat → Option Addr) (C M : Nat → Nat) (q : Nat) : Prop := ∃ j, j < n ∧ (vv A C M j).ownBlock = some q
structure Still (n lb B : Nat) (A : Nat → Option Addr) (C M : Nat → Nat) (w0 : World) : Prop where
  dis : ∀ i j, i < n → j < n → i ≠ j → (vv A C M i).ownBlock = none ∨ (vv A C M i).ownBlock ≠ (vv A C M j).ownBlock
  nlb : ∀ j, j < n → (vv A C M j).ownBlock ≠ some lb
  head : ∀ j, j < n → ∀ y, A j = some y → y = ⟨y.block, 0, none⟩
  base : ∀ j, j < n → ∀ q, (vv A C M j).ownBlock = some q → B ≤ q ∧ q < w0.heap.size
  lbs : lb < w0.heap.size
  size : B ≤ w0.heap.size
theorem own_head {w : World} {B n c : Nat} {a : Option Addr} {l : List Nat} (h : OwnB w B (.slice a n c) n l) : ∀ y, a = some y → y = ⟨y.block, 0, none⟩ := by
  intro y hy
  rcases h.2 with ⟨h1, _⟩ | ⟨g, cap, cur, h1, _⟩
  · simp only [Value.slice.injEq] at h1; rw [hy] at h1; simp at h1
  · simp only [Value.slice.injEq] at h1; rw [hy] at h1; simp only [Option.some.injEq] at h1; rw [h1.1]
/-- the first loop: each list holds F -/
structure L1 (n lb off B : Nat) (A : Nat → Option Addr) (C M : Nat → Nat) (F : Nat → List Nat) (w0 w : World) : Prop where
  row : ∀ j, j < n → w.cell? ⟨lb, off + j, none⟩ = some (vv A C M j)
  own : ∀ j, j < n → OwnB w B (vv A C M j) (M j) (F j)
  bel : Ch (FB n A C M) w0 w
theorem L1.step {n lb off B : Nat} {A : Nat → Option Addr} {C M : Nat → Nat} {F G : Nat → List Nat} {w0 w w' : World} (h : L1 n lb off B A C M F w0 w) (hs : Still n lb B A C M w0) {i : Nat} (hi : i < n)
    (ho : OwnB w' B (vv A C M i) (M i) (G i)) (hg : w.grownBy w' (vv A C M i).ownBlock) (hG : ∀ j, j ≠ i → G j = F j) : L1 n lb off B A C M G w0 w' := by
  refine ⟨fun j hj => hg.cell (h.row j hj) (fun e => hs.nlb i hi e.symm), fun j hj => ?_, h.bel.trans (Ch.ofGrown hg) (fun x _ e => ⟨i, hi, e⟩)⟩
  by_cases e : j = i
  · subst e; exact ho
  · rw [hG j e]; exact (h.own j hj).kept hg (hs.dis j i hj hi e)
/-- .. of those ahead of i, marked -/
def mkd (M : Nat → Nat) (L : Nat → List Nat) (i j : Nat) : List Nat := if j < i then rp (M j) (mark j) else L j

/-- the second loop: the lists from i on, the longer ones ahead of i -/
structure L2 (n lb off B : Nat) (A : Nat → Option Addr) (C M : Nat → Nat) (T i : Nat) (G : Nat → Value) (w0 w : World) : Prop where
  row : ∀ j, j < n → w.cell? ⟨lb, off + j, none⟩ = some (vv A C M j)
  own : ∀ j, i ≤ j → j < n → OwnB w B (vv A C M j) (M j) (rp (M j) (mark j))
  lon : ∀ j, j < i → OwnB w B (G j) (M j + T) (rp (M j + T) (mark j))
  rd : ∀ j, j < i → Rd w (A j) (M j) (mark j)
  sep : ∀ j k, j < i → i ≤ k → k < n → (G j).ownBlock = none ∨ (G j).ownBlock ≠ (vv A C M k).ownBlock
  bel : Ch (FB n A C M) w0 w
theorem L2.step {n lb off B : Nat} {A : Nat → Option Addr} {C M : Nat → Nat} {T i : Nat} {G : Nat → Value} {w0 w w' : World} (h : L2 n lb off B A C M T i G w0 w) (hs : Still n lb B A C M w0) (hi : i < n) (g : Value)
    (ho : OwnB w' B g (M i + T) (rp (M i + T) (mark i))) (hr : Rd w' (A i) (M i) (mark i)) (hg : w.grownBy w' (vv A C M i).ownBlock)
    (hp : g.ownBlock = (vv A C M i).ownBlock ∨ ∀ q, g.ownBlock = some q → w.heap.size ≤ q) : L2 n lb off B A C M T (i + 1) (fun j => if j = i then g else G j) w0 w' := by
  have hsz := h.bel.size
  refine ⟨fun j hj => hg.cell (h.row j hj) (fun e => hs.nlb i hi e.symm), fun j h1 hj => (h.own j (by omega) hj).kept hg (hs.dis j i hj hi (by omega)), fun j hj => ?_, fun j hj => ?_, fun j k hj h1 hk => ?_, h.bel.trans (Ch.ofGrown hg) (fun x _ e => ⟨i, hi, e⟩)⟩
  · by_cases e : j = i
    · subst e; simpa using ho
    · simp only [e, if_false]; exact (h.lon j (by omega)).kept hg (h.sep j i (by omega) (Nat.le_refl _) hi)
  · by_cases e : j = i
    · subst e; exact hr
    · refine (h.rd j (by omega)).keep hg (fun q hq => ?_)
      rcases hs.dis j i (by omega) hi e with h1 | h1
      · simp [vv, hq, Value.ownBlock] at h1
      · simpa [vv, hq, Value.ownBlock] using h1
  · by_cases e : j = i
    · subst e
      simp only [if_true]
      rcases hp with hp | hp
      · rw [hp]; exact hs.dis j k hi hk (by omega)
      · cases hv : g.ownBlock with
        | none => exact .inl rfl
        | some q =>
          refine .inr (fun e => ?_)
          have h2 := hp q hv
          have h3 := (hs.base k hk q e.symm).2
          omega
    · simp only [e, if_false]; exact h.sep j k (by omega) (by omega) hk
/-- .. while the list of the longer ones is lengthened -/
theorem L2.long {n lb off B : Nat} {A : Nat → Option Addr} {C M : Nat → Nat} {T i m : Nat} {G : Nat → Value} {w0 w w' : World} {v : Value} {xs : List Value} (h : L2 n lb off B A C M T i G w0 w) (hs : Still n lb B A C M w0)
    (hv : w.ownsRow w0.heap.size 22 1 v m xs) (hg : w.grownBy w' v.ownBlock) : L2 n lb off B A C M T i G w0 w' := by
  have hsz := h.bel.size
  refine ⟨fun j hj => hg.cell (h.row j hj) (fun e => ?_), fun j h1 hj => (h.own j h1 hj).kept hg (apart (h.own j h1 hj) hv (by decide)), fun j hj => (h.lon j hj).kept hg (apart (h.lon j hj) hv (by decide)), fun j hj => ?_, h.sep, h.bel.trans (Ch.ofGrown hg) (fun x hx e => absurd (hv.lt x e).1 (by omega))⟩
  · have := (hv.lt lb e.symm).1
    have := hs.lbs
    omega
  · rcases h.rd j hj with h0 | ⟨g, ha, ⟨c, hc⟩, hcell⟩
    · exact .inl h0
    · refine Rd.keep (.inr ⟨g, ha, ⟨c, hc⟩, hcell⟩) hg (fun q hq e => ?_)
      rw [ha] at hq
      simp only [Option.some.injEq, Addr.mk.injEq, and_true] at hq
      subst hq
      obtain ⟨c', hc'⟩ := kind hv g e.symm
      rw [hc] at hc'
      simp at hc'
theorem L2.alloc {n lb off B : Nat} {A : Nat → Option Addr} {C M : Nat → Nat} {T i : Nat} {G : Nat → Value} {w0 w : World} (h : L2 n lb off B A C M T i G w0 w) (_ : Still n lb B A C M w0) (o : Obj) : L2 n lb off B A C M T i G w0 (w.alloc o) := by
  have hg := World.grownBy_alloc w o none
  exact ⟨fun j hj => hg.cell (h.row j hj) (by simp), fun j h1 hj => (h.own j h1 hj).alloc o, fun j hj => (h.lon j hj).alloc o, fun j hj => (h.rd j hj).keep hg (fun _ _ => by simp), h.sep, h.bel.alloc o⟩
def mi0 (M : Nat → Nat) (i : Nat) : Nat := M i
/-- while one list is lengthened: it still reads as it was, the longer one lies in its row or in a new one -/
structure Inn (wi w : World) (a : Option Addr) (m c x : Nat) (gv : Value) : Prop where
  rd : Rd w a m x
  grow : wi.grownBy w (Value.slice a m c).ownBlock
  old : ∀ q, (Value.slice a m c).ownBlock = some q → q < wi.heap.size
  head : ∀ y, a = some y → y = ⟨y.block, 0, none⟩
  at' : gv.ownBlock = (Value.slice a m c).ownBlock ∨ ∀ q, gv.ownBlock = some q → wi.heap.size ≤ q
theorem Inn.start {w : World} {a : Option Addr} {m c x B : Nat} (h : OwnB w B (.slice a m c) m (rp m x)) (hh : ∀ y, a = some y → y = ⟨y.block, 0, none⟩) : Inn w w a m c x (.slice a m c) :=
  ⟨Rd.of h (Nat.le_refl _) rfl hh, World.grownBy.refl _ _, fun q hq => (h.lt q hq).2, hh, .inl rfl⟩
theorem Inn.step {wi w w' : World} {a : Option Addr} {m c x B n : Nat} {gv gv' : Value} {o : Obj} (h : Inn wi w a m c x gv) (ho : OwnB w' B gv' n (rp n x)) (hn : m ≤ n)
    (hs : ((w.alloc o).grownBy w' none ∧ ∀ q, gv'.ownBlock = some q → (w.alloc o).heap.size ≤ q) ∨ ((w.alloc o).grownBy w' gv.ownBlock ∧ gv'.ownBlock = gv.ownBlock ∧ gv.ownBlock ≠ none)) : Inn wi w' a m c x gv' := by
  have ha : wi.grownBy (w.alloc o) (Value.slice a m c).ownBlock := gtrans h.grow (World.grownBy_alloc w o _)
  have hra : Rd (w.alloc o) a m x := h.rd.keep (World.grownBy_alloc w o none) (fun _ _ => by simp)
  rcases hs with ⟨hg, hq⟩ | ⟨hg, e, hne⟩
  · exact ⟨hra.keep hg (fun _ _ => by simp), gfar ha hg (fun _ h => by simp at h), h.old, h.head, .inr (fun q hq' => Nat.le_trans ha.size (hq q hq'))⟩
  · rcases h.at' with h1 | h1
    · refine ⟨?_, gtrans ha (by rw [← h1]; exact hg), h.old, h.head, .inl (e.trans h1)⟩
      obtain ⟨a', c', rfl⟩ := owns_shape ho
      exact Rd.of ho hn (h1.symm.trans e.symm) h.head
    · refine ⟨hra.keep hg (fun g hg' e' => ?_), gfar ha hg h1, h.old, h.head, .inr (fun q hq => h1 q (e ▸ hq))⟩
      have h2 := h.old g (by rw [hg']; rfl)
      have h3 := h1 g e'.symm
      omega
end Go.Proofs.Ytcoaghcmbhogjaa.Ap
namespace Go.Proofs.Ytcoaghcmbhogjaa.Ap
open Go.RowKit

theorem form {w : World} {B : Nat} {v : Value} {n : Nat} {l : List Nat} (h : OwnB w B v n l) (hn : 0 < n) : ∃ g c, v = .slice (some ⟨g, 0, none⟩) n c ∧ B ≤ g ∧ g < w.heap.size := by
  rcases h.2 with ⟨_, h0⟩ | ⟨g, cap, cur, rfl, hg, hh, r⟩
  · omega
  · exact ⟨g, cap, rfl, hg, (Array.getElem?_eq_some_iff.1 hh).1⟩
theorem w64_add (a b : Nat) (ha : a ≤ 1099511627776) (hb : b ≤ 1099511627776) : wrap64 ((a : Int) + (b : Int)) = (a : Int) + (b : Int) := by unfold wrap64; omega
theorem i64_add (a b : Nat) (ha : a ≤ 1099511627776) (hb : b ≤ 1099511627776) : IntKind.i64.wrap ((a : Int) + (b : Int)) = (a : Int) + (b : Int) := by rw [IntKind.wrap_i64]; omega
theorem n_add (a b : Nat) (ha : a ≤ 1099511627776) (hb : b ≤ 1099511627776) : a + b ≤ 9223372036854775807 := by omega
theorem n_one (a : Nat) (ha : a ≤ 1099511627776) : a ≤ 9223372036854775807 := by omega
theorem toI_set' (l : List Nat) (i x : Nat) : ((toI l).map (Value.int .u8)).set i (.int .u8 (x : Int)) = (toI (l.set i x)).map (Value.int .u8) := by
  simp [toI, List.map_set]
set_option maxHeartbeats 3200000 in
set_option maxRecDepth 100000 in
theorem apart_any (n lb off cp B : Nat) (A : Nat → Option Addr) (C M : Nat → Nat) (L : Nat → List Nat) (w : World) (HS : Hid (Still n lb B A C M w)) (H0 : Hid (L1 n lb off B A C M L w w)) (htot : tot M n ≤ 1099511627776) (hn : n ≤ 1099511627776) :
    Calls Try.prog 30 #[.slice (some ⟨lb, off, none⟩) n cp] w fun e w' => e = .returned (.bool true) ∧ Ch (FB n A C M) w w' := by
  obtain ⟨i0, hi, hz0, hz1, hz2⟩ := info_parts Try.infoByte
  obtain ⟨j0, hj, hy0, hy1, hy2⟩ := info_parts infoBytes
  have HT : Hid (tot M n ≤ 1099511627776) := htot
  clear htot
  go_enter Try.func30, Try.ntmps30
  go_wp2
  go_loopw [3, 4] (fun t ix wr => ∃ k T : Nat, k ≤ n ∧ t = .int .i64 T ∧ ix = .int .i64 k ∧ Hid (T = tot M k) ∧ T ≤ 1099511627776 ∧ Hid (L1 n lb off B A C M (mkd M L k) w wr)) (fun _ ix _ => n - (intOf ix).toNat)
  case atStart => exact ⟨0, 70, Nat.zero_le _, rfl, rfl, rfl, by omega, by
    have e : mkd M L 0 = L := by funext j; simp [mkd]
    rw [e]; exact H0⟩
  case round =>
    obtain ⟨i, T, hin, rfl, rfl, HTI, hT, HI⟩ := hrel
    by_cases hlt : i < n
    · have hrow := HI.out.row i hlt
      have ho := HI.out.own i hlt
      have hMi : T + M i ≤ 1099511627776 := by
        have h1 := HT.out
        have h2 := tot_mono M (show i + 1 ≤ n from hlt)
        have h3 := HTI.out
        simp only [tot] at h2
        omega
      have HF : Hid (mkd M L i i = L i) := by show _ = _; simp [mkd]
      have hlL : (L i).length = M i := by rw [← HF.out]; exact ho.len
      rw [HF.out] at ho
      have HEQ : Hid (∀ ai mi ci, A i = ai → M i = mi → C i = ci → vv A C M i = .slice ai mi ci) := fun _ _ _ h1 h2 h3 => by rw [vv, h1, h2, h3]
      obtain ⟨ai, hai⟩ : ∃ x, x = A i := ⟨_, rfl⟩
      obtain ⟨mi, hmi⟩ : ∃ x, x = M i := ⟨_, rfl⟩
      obtain ⟨ci, hci⟩ : ∃ x, x = C i := ⟨_, rfl⟩
      obtain ⟨li, hli⟩ : ∃ x, x = L i := ⟨_, rfl⟩
      have HV : Hid (vv A C M i = .slice ai mi ci) := HEQ.out ai mi ci hai.symm hmi.symm hci.symm
      have HMI : Hid (M i = mi) := hmi.symm
      have HLI : Hid (L i = li) := hli.symm
      rw [HV.out] at hrow ho
      rw [← hmi] at hMi ho hlL
      rw [← hli] at ho hlL
      have HLL : Hid (li.length = mi) := hlL
      clear hai hmi hci hli hlL HEQ
      obtain ⟨x, hx⟩ : ∃ x, x = mark i := ⟨_, rfl⟩
      have HX : Hid (mark i = x) := hx.symm
      have hx2 : IntKind.u8.wrap ((i : Int) % 200 + 40) = (x : Int) := by
        rw [hx]; simp [mark, IntKind.wrap, IntKind.bits, IntKind.signed]; omega
      clear hx
      obtain ⟨wi, hwi⟩ : ∃ wi, wi = wr := ⟨_, rfl⟩
      rw [← hwi] at HI hrow ho ⊢
      clear hwi
      go_wp2
      go_loopw [5] (fun ix wq => ∃ k : Nat, k ≤ mi ∧ ix = .int .i64 k ∧ OwnB wq B (.slice ai mi ci) mi (full x k li) ∧ wi.grownBy wq (Value.slice ai mi ci).ownBlock) (fun ix _ => mi - (intOf ix).toNat)
      case atStart => exact ⟨0, Nat.zero_le _, rfl, by rw [full_zero]; exact ho, World.grownBy.refl _ _⟩
      case round =>
        obtain ⟨k, hk, rfl, hq, hgq⟩ := hrel
        have hnlb := HS.out.nlb i hlt
        rw [HV.out] at hnlb
        have hrow' := hgq.cell hrow (fun e => hnlb e.symm)
        by_cases hlk : k < mi
        · obtain ⟨g, c', e2, hgB, hgs⟩ := Ap.form hq (by omega)
          simp only [Value.slice.injEq, true_and] at e2
          obtain ⟨rfl, rfl⟩ := e2
          have hl := hq.len
          have cc : wr.cell? ⟨g, k, none⟩ = some (.int .u8 (((full x k li).getD k 0 : Nat) : Int)) := by
            rw [hq.cellAt k (by omega)]; simp [toI, List.getD, show k < (full x k li).length by omega]
          have ff := hq.frozenAt k
          have hst := hq.stored k (.int .u8 (x : Int))
          rw [toI_set', full_set x k _ (by rw [HLL.out]; exact hlk)] at hst
          have HST : Hid (_ ∧ _) := hst
          obtain ⟨q, hq'⟩ : ∃ q, q = (full x k li).getD k 0 := ⟨_, rfl⟩
          rw [← hq'] at cc
          have HGQ : Hid _ := hgq
          have hb1 : k < mi := hlk
          clear hst hq' hl hq ho hrow hgq hnlb
          go_wp2
          go_roundw
          case rel => exact ⟨k + 1, by omega, by go_num, HST.out.1, gtrans HGQ.out HST.out.2⟩
          case measure => simp [intOf]; omega
        · have hkm : k = mi := by omega
          have hq2 : OwnB wr B (.slice ai mi ci) mi (rp mi x) := by rw [hkm, full_all x mi li HLL.out] at hq; exact hq
          have HN : Hid (L1 n lb off B A C M (mkd M L (i + 1)) w wr) := by
            refine L1.step HI.out HS.out hlt ?_ (by rw [HV.out]; exact hgq) (fun j hj => ?_)
            · have e : mkd M L (i + 1) i = rp mi x := by simp [mkd, HX.out, HMI.out]
              rw [e, HV.out, HMI.out]; exact hq2
            · simp only [mkd]
              by_cases h1 : j < i
              · rw [if_pos h1, if_pos (by omega)]
              · rw [if_neg h1, if_neg (by omega)]
          have HT2 : Hid (T + mi = tot M (i + 1)) := by show _ = _; rw [tot, HMI.out, HTI.out]
          clear hq hq2 hgq hrow ho hnlb hkm
          go_wp2
          go_roundw
          case rel => exact ⟨i + 1, T + mi, by omega, by go_num, by go_num, HT2, hMi, HN⟩
          case measure => simp [intOf]; omega
    · have hin' : i = n := by omega
      have HL : Hid (L2 n lb off B A C M T 0 (fun _ => .slice none 0 0) w wr) := by
        have h := HI.out
        refine ⟨h.row, fun j _ hj => ?_, fun j hj => by omega, fun j hj => by omega, fun j _ hj => by omega, h.bel⟩
        have := h.own j hj
        rw [show mkd M L i j = rp (M j) (mark j) by simp only [mkd]; rw [if_pos (by omega)]] at this
        exact this
      have HTN : Hid (T = tot M n) := by rw [← hin']; exact HTI
      clear hin' HI HTI
      go_wp2
      go_loopw [6, 7] (fun lv ix wr => ∃ (k : Nat) (G : Nat → Value), k ≤ n ∧ ix = .int .i64 k ∧ wr.ownsRow w.heap.size 22 1 lv k ((List.range k).map G) ∧ Hid (L2 n lb off B A C M T k G w wr)) (fun _ ix _ => n - (intOf ix).toNat)
      case atStart => exact ⟨0, fun _ => .slice none 0 0, Nat.zero_le _, rfl, World.ownsRow_nil _ _ _ _, HL⟩
      case round =>
        obtain ⟨i, G, hin2, rfl, hlong, HI⟩ := hrel
        clear HL hlt hin
        by_cases hlt : i < n
        · have hrow := HI.out.row i hlt
          have ho := HI.out.own i (Nat.le_refl _) hlt
          have hMi : mi0 M i ≤ 1099511627776 := Nat.le_trans (len_le M hlt) HT.out
          simp only [mi0] at hMi
          have hBs : B ≤ w.heap.size := HS.out.size
          have hws : w.heap.size ≤ wr.heap.size := HI.out.bel.size
          have HEQ : Hid (∀ ai mi ci, A i = ai → M i = mi → C i = ci → vv A C M i = .slice ai mi ci) := fun _ _ _ h1 h2 h3 => by rw [vv, h1, h2, h3]
          have hhd := HS.out.head i hlt
          have hbs := HS.out.base i hlt
          obtain ⟨ai, hai⟩ : ∃ x, x = A i := ⟨_, rfl⟩
          obtain ⟨mi, hmi⟩ : ∃ x, x = M i := ⟨_, rfl⟩
          obtain ⟨ci, hci⟩ : ∃ x, x = C i := ⟨_, rfl⟩
          have HV : Hid (vv A C M i = .slice ai mi ci) := HEQ.out ai mi ci hai.symm hmi.symm hci.symm
          have HMI : Hid (M i = mi) := hmi.symm
          have HAI : Hid (A i = ai) := hai.symm
          rw [HV.out] at hrow ho hbs
          rw [← hmi] at hMi ho
          rw [← hai] at hhd
          obtain ⟨x, hx⟩ : ∃ x, x = mark i := ⟨_, rfl⟩
          rw [← hx] at ho
          have HX : Hid (mark i = x) := hx.symm
          have hx2 : IntKind.u8.wrap ((i : Int) % 200 + 40) = (x : Int) := by
            rw [hx]; simp [mark, IntKind.wrap, IntKind.bits, IntKind.signed]; omega
          have HHD : Hid (∀ y, ai = some y → y = ⟨y.block, 0, none⟩) := hhd
          have HBS : Hid (∀ q, (Value.slice ai mi ci).ownBlock = some q → B ≤ q ∧ q < w.heap.size) := hbs
          clear hx hai hmi hci HEQ hhd hbs
          obtain ⟨wi, hwi⟩ : ∃ wi, wi = wr := ⟨_, rfl⟩
          rw [← hwi] at HI hrow ho hws hlong ⊢
          clear hwi
          go_wp2
          go_loopw [8, 9] (fun gv ix wq => ∃ k : Nat, k ≤ T ∧ ix = .int .i64 k ∧ OwnB wq B gv (mi + k) (rp (mi + k) x) ∧ Hid (Inn wi wq ai mi ci x gv)) (fun _ ix _ => T - (intOf ix).toNat)
          case atStart => exact ⟨0, Nat.zero_le _, rfl, ho, Inn.start ho HHD.out⟩
          case round =>
            obtain ⟨k, hk, rfl, hq, HN⟩ := hrel
            by_cases hlk : k < T
            · have hsz := HN.out.grow.size
              clear ho hrow
              go_wp2_with (first | (at_builtin; refine append_split rfl (.tmp 58) (.tmp 63) 22 rfl B 5 i0 (.int .u8 0) 1 Try.underlying22 hi hz0 hz1 hz2 rfl _ _ _ rfl (hq.alloc _) ⟨wr.heap.size, 0, none⟩ 1 1 [.int .u8 x] rfl rfl ?c1 ?c2 ?c3 ?c4 ?c5 ?_))
              case c1 => exact cell_one_new _ _ _
              case c2 => intro u hu; simp at hu; subst hu; rfl
              case c3 => unfold maxLen; omega
              case c4 => omega
              case c5 => simp; omega
              intro v6 w6 ho6' hsp
              have ho6 : OwnB w6 B v6 (mi + (k + 1)) (rp (mi + (k + 1)) x) := by
                rw [OwnB, show mi + (k + 1) = (mi + k) + 1 by omega, ← rp_succ]; exact ho6'
              have HN6 : Hid (Inn wi w6 ai mi ci x v6) := HN.out.step (o := .cells #[.int .u8 (x : Int)] 5) ho6 (by omega) (by simpa using hsp)
              clear hsp ho6' hq HN
              go_wp2
              go_roundw
              case rel => exact ⟨k + 1, by omega, by go_num, ho6, HN6⟩
              case measure => simp [intOf]; omega
            · have hkT : k = T := by omega
              rw [hkT] at hq
              obtain ⟨a8, c8, rfl⟩ := owns_shape hq
              obtain ⟨u8, hu8⟩ : ∃ u, u = Value.slice a8 (mi + T) c8 := ⟨_, rfl⟩
              rw [← hu8] at hq HN
              have HI2 : Hid (L2 n lb off B A C M T (i + 1) (fun j => if j = i then u8 else G j) w wr) := by
                refine HI.out.step HS.out hlt u8 ?_ ?_ ?_ ?_
                · rw [HMI.out, HX.out]; exact hq
                · rw [HMI.out, HX.out, HAI.out]; exact HN.out.rd
                · rw [HV.out]; exact HN.out.grow
                · rw [HV.out]; exact HN.out.at'
              have hlong2 : wr.ownsRow w.heap.size 22 1 u6 i ((List.range i).map G) := hlong.kept HN.out.grow (by
                cases hv : u6.ownBlock with
                | none => exact .inl rfl
                | some q =>
                  refine .inr (fun e => ?_)
                  have h1 := (hlong.lt q hv).1
                  have h2 := (HBS.out q e.symm).2
                  omega)
              have hsz := HN.out.grow.size
              have hmap : (List.range i).map G ++ [u8] = (List.range (i + 1)).map (fun j => if j = i then u8 else G j) := by
                rw [List.range_succ, List.map_append]
                congr 1
                · refine List.map_congr_left (fun j hj => ?_)
                  rw [List.mem_range] at hj
                  rw [if_neg (by omega)]
                · simp
              have HMAP : Hid _ := hmap
              obtain ⟨G2, hG2⟩ : ∃ G2, G2 = (fun j => if j = i then u8 else G j) := ⟨_, rfl⟩
              rw [← hG2] at HI2 HMAP
              clear hmap hG2 hlong ho hrow hq HN HI
              obtain ⟨xs, hxs⟩ : ∃ xs, xs = (List.range i).map G := ⟨_, rfl⟩
              rw [← hxs] at hlong2 HMAP
              rw [hu8] at HMAP
              clear hxs hu8
              go_wp2_with (first | (at_builtin; refine wpList_append_own _ rfl (.tmp 65) (.tmp 67) 62 rfl w.heap.size 22 j0 (.slice none 0 0) 1 24 Try.underlying62 hj hy0 hy1 hy2 rfl (by decide) _ _ _ rfl (hlong2.alloc _) ⟨wr.heap.size, 0, none⟩ 1 1 [.slice a8 (mi + T) c8] rfl rfl ?c1 ?c2 ?c3 ?c4 ?c5 ?_))
              case c1 => exact cell_one_new _ _ _
              case c2 => intro u hu; simp at hu; subst hu; rfl
              case c3 => unfold maxLen; omega
              case c4 => omega
              case c5 => simp; omega
              intro v6 w6 ho6 hg6 _
              rw [HMAP.out] at ho6
              have HI3 : Hid (L2 n lb off B A C M T (i + 1) G2 w w6) := by
                have hal := HI2.out.alloc HS.out (.cells #[.slice a8 (mi + T) c8] 22)
                exact hal.long HS.out (hlong2.alloc _) hg6
              clear hg6 hlong2 HI2
              go_wp2
              go_roundw
              case rel => exact ⟨i + 1, G2, by omega, by go_num, ho6, HI3⟩
              case measure => simp [intOf]; omega
        · have hin' : i = n := by omega
          subst hin'
          clear hlt hin2
          obtain ⟨la, lc, rfl⟩ := owns_shape hlong
          have hfin := HI.out.bel
          have hTp : T = T := rfl
          go_wp2
          have hBw : B ≤ wr.heap.size := Nat.le_trans HS.out.size hfin.size
          obtain ⟨wz, hwz⟩ : ∃ wz, wz = wr := ⟨_, rfl⟩
          rw [← hwz] at HI hlong hfin hBw ⊢
          clear hwz
          go_loopw [10] (fun ix wq => ∃ k : Nat, k ≤ i ∧ ix = .int .i64 k ∧ Below wz.heap.size wz wq) (fun ix _ => i - (intOf ix).toNat)
          case atStart => exact ⟨0, Nat.zero_le _, rfl, Below.refl _ _⟩
          case round =>
            obtain ⟨k, hk, rfl, hbq⟩ := hrel
            by_cases hlk : k < i
            · have hrow := HI.out.row k hlk
              have hlon := HI.out.lon k hlk
              have hrd := (HI.out.rd k hlk).seg
              have hMk : mi0 M k ≤ 1099511627776 := Nat.le_trans (len_le M hlk) HT.out
              simp only [mi0] at hMk
              obtain ⟨g, c', e2⟩ : ∃ g c', Value.slice la i lc = .slice (some ⟨g, 0, none⟩) i c' := by
                rcases hlong.2 with ⟨_, h0⟩ | ⟨g, cap, cur, h1, _⟩
                · omega
                · exact ⟨g, cap, h1⟩
              simp only [Value.slice.injEq, true_and] at e2
              obtain ⟨rfl, rfl⟩ := e2
              have hcl := hlong.cellAt k (by omega)
              rw [show ((List.range i).map G)[k]? = some (G k) by simp [hlk]] at hcl
              obtain ⟨gk, hgk⟩ : ∃ x, x = G k := ⟨_, rfl⟩
              rw [← hgk] at hcl hlon
              obtain ⟨a8, c8, rfl⟩ := owns_shape hlon
              have hrow2 : wz.cell? ⟨lb, off + k, none⟩ = some (.slice (A k) (M k) (C k)) := hrow
              obtain ⟨ak, hak⟩ : ∃ x, x = A k := ⟨_, rfl⟩
              obtain ⟨mk, hmk⟩ : ∃ x, x = M k := ⟨_, rfl⟩
              obtain ⟨ck, hck⟩ : ∃ x, x = C k := ⟨_, rfl⟩
              rw [← hak] at hrow2 hrd
              rw [← hmk] at hrow2 hrd hMk hlon hcl
              rw [← hck] at hrow2
              obtain ⟨x, hx⟩ : ∃ x, x = mark k := ⟨_, rfl⟩
              rw [← hx] at hlon hrd
              have hx2 : IntKind.u8.wrap ((k : Int) % 200 + 40) = (x : Int) := by
                rw [hx]; simp [mark, IntKind.wrap, IntKind.bits, IntKind.signed]; omega
              have hbA : Below wz.heap.size wz wr.drew := hbq.drew
              have hrowA := (hbA.cell (p := ⟨lb, off + k, none⟩) (World.block_lt_of_cell? wz _ hrow2)).trans hrow2
              have hclA := (hbA.cell (p := ⟨g, k, none⟩) (World.block_lt_of_cell? wz _ hcl)).trans hcl
              have HSG : Hid (Seg .u8 wr.drew a8 (toI (rp (mk + T) x))) := (owns_seg_at hlon).1.old hbA
              have HRD : Hid (Seg .u8 wr.drew ak (toI (rp mk x))) := hrd.old hbA
              have hne : (((mk : Int) + (T : Int)) != ((mk : Int) + (T : Int))) = false := by simp
              clear hx hak hmk hck hgk hrow hlon hrd hlong hrow2 hcl
              go_upto_region 23 with fail
              refine Mix.start (by kernel_rfl) ?_
              obtain ⟨wA, hwA⟩ : ∃ wA, wA = wr.drew := ⟨_, rfl⟩
              rw [← hwA] at hbA hrowA hclA HSG HRD ⊢
              clear hwA hbq
              have k0 : (0 : Int) ≤ (k : Int) := by omega
              have k1 : (k : Int) < (i : Int) := by omega
              have k2 : ((k : Int)).toNat = k := by omega
              have k3 : wrap64 ((mk : Int) + (T : Int)) = (mk : Int) + (T : Int) := w64_add mk T hMk hT
              have k4 : IntKind.i64.wrap ((mk : Int) + (T : Int)) = (mk : Int) + (T : Int) := i64_add mk T hMk hT
              refine Mix.take [true, true, true, false, true, true, true, true] 30 (by kernel_rfl) (by kernel_rfl) (by decide) (by kernel_rfl) (fun K hK => ?_)
              simp only [Mix.pick]
              repeat (go_big_quiet_step (fail))
              refine wpQuiet_nil (hK _ ?_)
              clear hK K
              refine Mix.one [false, false, false, true] 29 3 _ rfl rfl (by kernel_rfl) (by kernel_rfl) (fun K hK => ?_)
              simp only [Mix.pick]
              go_wp2
              refine ⟨rfl, hK _ _ ?_⟩
              clear hK K
              refine Mix.one [false, false, false, false, false, false, false, false, true] 28 8 _ rfl rfl (by kernel_rfl) (by kernel_rfl) (fun K hK => ?_)
              simp only [Mix.pick]
              go_wp2_with fail
              refine (full_any ak mk ck x _ HRD.out (n_one mk hMk)).mono ?_
              rintro e w5 ⟨rfl, rfl⟩
              go_wp2
              refine ⟨rfl, hK _ _ ?_⟩
              clear hK K
              refine Mix.take [false, false, false, false, false, false, false, false, false, true, true, true, true, true, false, true, true, true, true] 19 (by kernel_rfl) (by kernel_rfl) (by decide) (by kernel_rfl) (fun K hK => ?_)
              simp only [Mix.pick]
              repeat (go_big_quiet_step (fail))
              refine wpQuiet_nil (hK _ ?_)
              clear hK K
              refine Mix.one [false, false, false, false, false, false, false, false, false, false, false, false, false, false, true] 18 14 _ rfl rfl (by kernel_rfl) (by kernel_rfl) (fun K hK => ?_)
              simp only [Mix.pick]
              go_wp2
              refine ⟨rfl, hK _ _ ?_⟩
              clear hK K
              refine Mix.one [false, false, false, false, false, false, false, false, false, false, false, false, false, false, false, false, false, false, false, true] 17 19 _ rfl rfl (by kernel_rfl) (by kernel_rfl) (fun K hK => ?_)
              simp only [Mix.pick]
              go_wp2_with fail
              refine (full_any a8 (mk + T) c8 x _ HSG.out (n_add mk T hMk hT)).mono ?_
              rintro e w5 ⟨rfl, rfl⟩
              go_wp2
              refine ⟨rfl, hK _ _ ?_⟩
              clear hK K
              refine Mix.take [false, false, false, false, false, false, false, false, false, false, false, false, false, false, false, false, false, false, false, false, true, true, true, true, true, true, false, false, true, true, true, false, false, true] 7 (by kernel_rfl) (by kernel_rfl) (by decide) (by kernel_rfl) (fun K hK => ?_)
              simp only [Mix.pick]
              repeat (go_big_quiet_step (fail))
              refine wpQuiet_nil (hK _ ?_)
              clear hK K
              refine Mix.pair [false, false, false, false, false, false, false, false, false, false, false, false, false, false, false, false, false, false, false, false, false, false, false, false, false, false, true] [false, false, false, false, false, false, false, false, false, false, false, false, false, false, false, false, false, false, false, false, false, false, false, false, false, false, false, false, false, false, false, true] 6 26 31 _ _ rfl rfl rfl rfl (by kernel_rfl) (by kernel_rfl) (fun K hK => ?_) (fun K hK => ?_)
              · simp only [Mix.pick]
                go_wp2
                refine ⟨rfl, hK _ _ ?_⟩
                clear hK K
                refine Mix.take [false, false, false, false, false, false, false, false, false, false, false, false, false, false, false, false, false, false, false, false, false, false, false, false, false, false, false, true] 5 (by kernel_rfl) (by kernel_rfl) (by decide) (by kernel_rfl) (fun K hK => ?_)
                simp only [Mix.pick]
                repeat (go_big_quiet_step (fail))
                refine wpQuiet_nil (hK _ ?_)
                clear hK K
                refine Mix.one [false, false, false, false, false, false, false, false, false, false, false, false, false, false, false, false, false, false, false, false, false, false, false, false, false, false, false, false, false, false, false, true] 4 31 _ rfl rfl (by kernel_rfl) (by kernel_rfl) (fun K hK => ?_)
                simp only [Mix.pick]
                go_wp2
                refine ⟨rfl, hK _ _ ?_⟩
                clear hK K
                refine Mix.take [false, false, false, false, false, false, false, false, false, false, false, false, false, false, false, false, false, false, false, false, false, false, false, false, false, false, false, false, false, false, false, false, true, false, true, true, true] 0 (by kernel_rfl) (by kernel_rfl) (by decide) (by kernel_rfl) (fun K hK => ?_)
                simp only [Mix.pick]
                repeat (go_big_quiet_step (fail))
                refine wpQuiet_nil (hK _ ?_)
                clear hK K
                refine Mix.done (by kernel_rfl) ?_
                go_wp2
                go_roundw
                case rel => exact ⟨k + 1, by omega, by go_num, hbA⟩
                case measure => simp [intOf]; omega
              · simp only [Mix.pick]
                go_wp2
                refine ⟨rfl, hK _ _ ?_⟩
                clear hK K
                refine Mix.take [false, false, false, false, false, false, false, false, false, false, false, false, false, false, false, false, false, false, false, false, false, false, false, false, false, false, false, false, false, false, false, false, true, false, true] 4 (by kernel_rfl) (by kernel_rfl) (by decide) (by kernel_rfl) (fun K hK => ?_)
                simp only [Mix.pick]
                repeat (go_big_quiet_step (fail))
                refine wpQuiet_nil (hK _ ?_)
                clear hK K
                refine Mix.one [false, false, false, false, false, false, false, false, false, false, false, false, false, false, false, false, false, false, false, false, false, false, false, false, false, false, true] 3 26 _ rfl rfl (by kernel_rfl) (by kernel_rfl) (fun K hK => ?_)
                simp only [Mix.pick]
                go_wp2
                refine ⟨rfl, hK _ _ ?_⟩
                clear hK K
                refine Mix.take [false, false, false, false, false, false, false, false, false, false, false, false, false, false, false, false, false, false, false, false, false, false, false, false, false, false, false, true, false, false, false, false, false, false, false, true, true] 0 (by kernel_rfl) (by kernel_rfl) (by decide) (by kernel_rfl) (fun K hK => ?_)
                simp only [Mix.pick]
                repeat (go_big_quiet_step (fail))
                refine wpQuiet_nil (hK _ ?_)
                clear hK K
                refine Mix.done (by kernel_rfl) ?_
                go_wp2
                go_roundw
                case rel => exact ⟨k + 1, by omega, by go_num, hbA⟩
                case measure => simp [intOf]; omega
            · have hall : Ch _ w wr := hfin.trans (Ch.ofBelow (S := fun _ => False) hbq) (fun _ _ q => q.elim)
              go_wp2
              go_ret
              exact ⟨rfl, hall⟩
end Go.Proofs.Ytcoaghcmbhogjaa.Ap
namespace Go.Proofs.Ytcoaghcmbhogjaa.Ap
open Go.RowKit

def R (a b : Value) : Prop := a.ownBlock = none ∨ a.ownBlock ≠ b.ownBlock
theorem R.symm {a b : Value} (h : R a b) : R b a := by
  rcases h with h | h
  · cases hb : b.ownBlock with
    | none => exact .inl hb
    | some q => exact .inr (by rw [h, hb]; simp)
  · exact .inr (fun e => h e.symm)
/-- parts of the call's own that lie apart -/
structure Fam (w : World) (B : Nat) (ps : List Part) : Prop where
  own : ∀ p ∈ ps, OwnB w B p.val p.l.length p.l ∧ p.l.length ≤ 65535
  dis : (ps.map Part.val).Pairwise R
theorem Fam.nil (w : World) (B : Nat) : Fam w B [] := ⟨fun p hp => absurd hp (by simp), List.Pairwise.nil⟩
theorem Fam.old {w w' : World} {B : Nat} {ps : List Part} (h : Fam w B ps) (hb : Below w.heap.size w w') : Fam w' B ps := ⟨fun p hp => ⟨(h.own p hp).1.below hb, (h.own p hp).2⟩, h.dis⟩
theorem Fam.add {w w' : World} {B : Nat} {ps : List Part} (h : Fam w B ps) (hb : Below w.heap.size w w') (hB : B ≤ w.heap.size) (p : Part) (ho : OwnB w' w.heap.size p.val p.l.length p.l) (hl : p.l.length ≤ 65535) : Fam w' B (ps ++ [p]) := by
  refine ⟨fun q hq => ?_, ?_⟩
  · rcases List.mem_append.1 hq with hq | hq
    · exact (h.old hb).own q hq
    · simp only [List.mem_singleton] at hq; subst hq; exact ⟨owns_le ho hB, hl⟩
  · rw [List.map_append, List.map_cons, List.map_nil, List.pairwise_append]
    refine ⟨h.dis, List.pairwise_singleton _ _, fun a ha b hb' => ?_⟩
    simp only [List.mem_singleton] at hb'
    subst hb'
    obtain ⟨q, hq, rfl⟩ := List.mem_map.1 ha
    cases hv : q.val.ownBlock with
    | none => exact .inl hv
    | some k =>
      refine .inr (fun e => ?_)
      have h1 := ((h.own q hq).1.lt k hv).2
      rw [hv] at e
      have h2 := (ho.lt k e.symm).1
      omega
theorem Fam.long {w w' : World} {B B' m : Nat} {ps : List Part} {v : Value} {xs : List Value} (h : Fam w B ps) (hv : w.ownsRow B' 22 1 v m xs) (hg : w.grownBy w' v.ownBlock) : Fam w' B ps :=
  ⟨fun p hp => ⟨(h.own p hp).1.kept hg (apart (h.own p hp).1 hv (by decide)), (h.own p hp).2⟩, h.dis⟩
def no : Part := ⟨none, 0, []⟩
theorem tot_le (M : Nat → Nat) (h : ∀ j, M j ≤ 65535) (n : Nat) : tot M n ≤ 70 + 65535 * n := by
  induction n with
  | zero => simp [tot]
  | succ n ih => have := h n; simp only [tot]; omega
theorem getD_val (ps : List Part) (j : Nat) (h : j < ps.length) : ps.getD j no = ps[j] := by simp [List.getD, h]
theorem fam_apart {w : World} {B B' n c : Nat} {a : Option Addr} {ps : List Part} (h : Fam w B ps) (hv : w.ownsRow B' 22 1 (.slice a n c) n (ps.map Part.val)) (hn : ps.length = n) (h0 : 0 < n) (hm : n ≤ 1000) (hB : B ≤ w.heap.size) :
    Calls Try.prog 30 #[.slice a n c] w fun e w' => e = .returned (.bool true) ∧ Ch (fun q => ∃ p ∈ ps, p.val.ownBlock = some q) w w' := by
  obtain ⟨g, c', e2⟩ : ∃ g c', Value.slice a n c = .slice (some ⟨g, 0, none⟩) n c' := by
    rcases hv.2 with ⟨_, h0'⟩ | ⟨g, cap, cur, h1, _⟩
    · omega
    · exact ⟨g, cap, h1⟩
  simp only [Value.slice.injEq, true_and] at e2
  obtain ⟨rfl, rfl⟩ := e2
  subst hn
  have hvv : ∀ j, j < ps.length → vv (fun j => (ps.getD j no).a) (fun j => (ps.getD j no).cap) (fun j => (ps.getD j no).l.length) j = (ps.getD j no).val := fun j _ => rfl
  have hown : ∀ j, j < ps.length → OwnB w B (ps.getD j no).val (ps.getD j no).l.length (ps.getD j no).l := fun j hj => by
    rw [getD_val ps j hj]; exact (h.own _ (List.getElem_mem hj)).1
  have h40 : ∀ j, (ps.getD j no).l.length ≤ 65535 := fun j => by
    by_cases hj : j < ps.length
    · rw [getD_val ps j hj]; exact (h.own _ (List.getElem_mem hj)).2
    · simp [List.getD, hj, no]
  have hg := (hv.lt g rfl).2
  have hfb : ∀ x, FB ps.length (fun j => (ps.getD j no).a) (fun j => (ps.getD j no).cap) (fun j => (ps.getD j no).l.length) x → ∃ p ∈ ps, p.val.ownBlock = some x := by
    rintro x ⟨j, hj, hx⟩
    refine ⟨ps[j], List.getElem_mem hj, ?_⟩
    rw [← getD_val ps j hj]
    exact hx
  refine Calls.mono (apart_any ps.length g 0 c B (fun j => (ps.getD j no).a) (fun j => (ps.getD j no).cap) (fun j => (ps.getD j no).l.length) (fun j => (ps.getD j no).l) w ?_ ?_ ?_ ?_) (fun e w' h => ⟨h.1, h.2.mono (fun x _ q => hfb x q)⟩)
  · refine ⟨fun i j hi hj hne => ?_, fun j hj => ?_, fun j hj => own_head (hown j hj), fun j hj q hq => (hown j hj).lt q hq, hg, hB⟩
    · show R (ps.getD i no).val (ps.getD j no).val
      rw [getD_val ps i hi, getD_val ps j hj]
      have hp := List.pairwise_iff_getElem.1 h.dis
      rcases Nat.lt_or_ge i j with hlt | hge
      · have := hp i j (by simpa using hi) (by simpa using hj) hlt
        rw [List.getElem_map, List.getElem_map] at this
        exact this
      · have := hp j i (by simpa using hj) (by simpa using hi) (by omega)
        rw [List.getElem_map, List.getElem_map] at this
        exact R.symm this
    · show (ps.getD j no).val.ownBlock ≠ some g
      rcases apart (hown j hj) hv (by decide) with e | e
      · rw [e]; simp
      · exact e
  · refine ⟨fun j hj => ?_, hown, Ch.refl _ _⟩
    rw [Nat.zero_add, hv.cellAt j (by omega)]
    show _ = some (ps.getD j no).val
    rw [getD_val ps j hj]
    simp [hj]
  · have := tot_le (fun j => (ps.getD j no).l.length) h40 ps.length
    omega
  · omega
end Go.Proofs.Ytcoaghcmbhogjaa.Ap
