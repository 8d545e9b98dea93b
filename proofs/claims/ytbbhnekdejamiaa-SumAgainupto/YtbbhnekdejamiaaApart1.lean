/-
  Lists that lie apart, written and lengthened one after the other: what Apart keeps. (A family of rows of the caller's own.)
-/
import Derived.Test.YtbbhnekdejamiaaSum3
import Derived.ArgAppend
import Derived.Maps.AppendAt
import Derived.Deep.DeepAppendRoom
namespace Go.Proofs.Ytbbhnekdejamiaa.Ap
open Go.RowKit

theorem infoBytes : (Try.prog.info? 26).map (fun i => (i.zero, i.size, i.bytes)) = some (some (.slice none 0 0), 1, 24) := by kernel_rfl
theorem kind {w : World} {B : Nat} {e : TypeId} {v : Value} {n : Nat} {xs : List Value} (h : w.ownsRow B e 1 v n xs) : ∀ g, v.ownBlock = some g → ∃ c, w.heap[g]? = some (.cells c e (0, 0)) := by
  intro g hg
  rcases h.2 with ⟨rfl, _⟩ | ⟨g', cap, cur, rfl, _, hh, _⟩
  · simp [Value.ownBlock] at hg
  · simp [Value.ownBlock] at hg; subst hg; exact ⟨cur, hh⟩
theorem apart {w : World} {B B' : Nat} {e e' : TypeId} {v v' : Value} {n n' : Nat} {xs xs' : List Value} (h : w.ownsRow B e 1 v n xs) (h' : w.ownsRow B' e' 1 v' n' xs') (hne : e ≠ e') : v.ownBlock = none ∨ v.ownBlock ≠ v'.ownBlock := by
  cases hv : v.ownBlock with
  | none => exact .inl rfl
  | some g =>
    refine .inr (fun hc => hne ?_)
    obtain ⟨c, hc1⟩ := kind h g hv
    obtain ⟨c', hc2⟩ := kind h' g hc.symm
    rw [hc1] at hc2
    simp at hc2
    exact hc2.2
theorem owns_le {w : World} {b b' : Nat} {e : TypeId} {v : Value} {n : Nat} {xs : List Value} (h : w.ownsRow b e 1 v n xs) (hb : b' ≤ b) : w.ownsRow b' e 1 v n xs := by
  refine ⟨h.1, ?_⟩
  rcases h.2 with h2 | ⟨g, cap, cur, rfl, hg, r⟩
  · exact .inl h2
  · exact .inr ⟨g, cap, cur, rfl, Nat.le_trans hb hg, r⟩
theorem gtrans {a b c : World} {r : Option Nat} (h : a.grownBy b r) (k : b.grownBy c r) : a.grownBy c r :=
  ⟨k.os.trans h.os, k.tape.trans h.tape, k.output.trans h.output, Nat.le_trans h.size k.size, fun i hi hr => (k.block i (Nat.lt_of_lt_of_le hi h.size) hr).trans (h.block i hi hr)⟩
/-- a write to a block that was not yet there -/
theorem gfar {a b c : World} {r s : Option Nat} (h : a.grownBy b r) (k : b.grownBy c s) (hs : ∀ q, s = some q → a.heap.size ≤ q) : a.grownBy c r :=
  ⟨k.os.trans h.os, k.tape.trans h.tape, k.output.trans h.output, Nat.le_trans h.size k.size, fun i hi hr => (k.block i (Nat.lt_of_lt_of_le hi h.size) (fun e => by have := hs i e.symm; omega)).trans (h.block i hi hr)⟩

/-- 'append(v, x...)': in the row where v lies, or in a new one: then v's row stays. -/
theorem append_split {P : Program} {w : World} {ops : Array Oper} {rest : List Oper} {o : Oper} {a : Act} {Q : Exit → Act → World → Prop} (hgd : o.guard = none) (s x : Operand) (t : TypeId)
    (ho : o.op = .call { callee := .builtin .append, args := #[s, x], argTypes := #[t, t] })
    (base : Nat) (e : TypeId) (i : TypeInfo) (z : Value) (bytes : Nat) (ht : P.underlying t = some (.slice e)) (hi : P.info? e = some i) (hz : i.zero = some z)
    (hsize : i.size = 1) (hby : i.bytes = bytes) (hzs : z.cells.size = 1)
    (v : Value) (n : Nat) (xs : List Value) (hs : a.eval s = v) (hown : w.ownsRow base e 1 v n xs)
    (ad : Addr) (m c : Nat) (news : List Value) (hx : a.eval x = .slice (some ad) m c) (hl : news.length = m * 1) (hnews : ∀ j u, news[j]? = some u → w.cell? (ad.add j) = some u) (h1 : ∀ u ∈ news, u.oneCell' = true)
    (h63 : n + m ≤ maxLen) (hbytes : (n + m) * bytes ≤ 140737488355328) (hbase : base ≤ w.heap.size)
    (h : ∀ v' w', w'.ownsRow base e 1 v' (n + m) (xs ++ news) → ((w.grownBy w' none ∧ ∀ q, v'.ownBlock = some q → w.heap.size ≤ q) ∨ (w.grownBy w' v.ownBlock ∧ v'.ownBlock = v.ownBlock ∧ v.ownBlock ≠ none)) → wpList P ops Q rest (a.put o.dst v') w') : wpList P ops Q (o :: rest) a w := by
  rcases hown.2 with ⟨rfl, rfl⟩ | ⟨g, cap, cur, rfl, hbg, hg, hnc, hcm, hcs, htake⟩
  · have hx0 : xs = [] := List.eq_nil_of_length_eq_zero (by simpa using hown.1)
    subst hx0
    refine wpList_append_own_at w hgd s x t ho w.heap.size e i z 1 bytes ht hi hz hsize hby hzs (by decide) (.slice none 0 0) 0 [] hs (World.ownsRow_nil _ _ _ _) ad m c news hx hl hnews h1 h63 hbytes (Nat.le_refl _) ?_
    intro v' w' r1 r2 _ _
    exact h v' w' (owns_le r1 hbase) (.inl ⟨r2, fun q hq => (r1.lt q hq).1⟩)
  · by_cases hroom : n + m ≤ cap
    · refine wpList_append_own_spare w hgd s x t ho base e i 1 ht hi hsize g n cap xs hs hown ad m c news hx hl hnews h1 hroom ?_
      intro w' r1 r2
      exact h _ w' r1 (.inr ⟨r2, rfl, by simp [Value.ownBlock]⟩)
    · refine wpList_plain hgd fun K hK => ?_
      obtain ⟨v', w', hrun, r1, r2⟩ := run_append_arg_grows (P := P) w t o.type e i z 1 bytes ht hi hz hsize hby hzs (by decide) ⟨g, 0, none⟩ n cap xs hown.1 (hown.cells rfl) ad m c news hl hnews (by omega) h63 hbytes
      unfold Oper.wp
      simp [execOp, ho, resolve, invoke, builtin, hs, hx, hrun, Result.andThen]
      exact hK _ _ (h v' w' (owns_le r1 hbase) (.inl ⟨r2, fun q hq => (r1.lt q hq).1⟩))

def mark (i : Nat) : Nat := i % 200 + 40
def rp (n x : Nat) : List Nat := List.replicate n x
def full (c k : Nat) (l : List Nat) : List Nat := List.replicate k c ++ l.drop k
theorem full_set (c k : Nat) (l : List Nat) (h : k < l.length) : (full c k l).set k c = full c (k + 1) l := by
  unfold full
  rw [List.set_append_right _ _ (by simp), List.length_replicate, Nat.sub_self, List.drop_eq_getElem_cons h, List.set_cons_zero, List.replicate_succ']
  simp
theorem full_all (c n : Nat) (l : List Nat) (h : l.length = n) : full c n l = rp n c := by subst h; simp [full, rp]
theorem full_zero (c : Nat) (l : List Nat) : full c 0 l = l := by simp [full]
theorem rp_succ (n x : Nat) : (toI (rp n x)).map (Value.int .u8) ++ [Value.int .u8 (x : Int)] = (toI (rp (n + 1) x)).map (Value.int .u8) := by
  unfold rp; rw [List.replicate_succ']; simp [toI]
/-- 70 and the lengths of the first i -/
def tot (M : Nat → Nat) : Nat → Nat
  | 0 => 70
  | i + 1 => tot M i + M i
theorem tot_mono (M : Nat → Nat) {i j : Nat} (h : i ≤ j) : tot M i ≤ tot M j := by
  induction h with
  | refl => exact Nat.le_refl _
  | step _ ih => exact Nat.le_trans ih (by simp [tot])
theorem tot_ge (M : Nat → Nat) (i : Nat) : 70 ≤ tot M i := tot_mono M (Nat.zero_le i)
theorem len_le (M : Nat → Nat) {i n : Nat} (h : i < n) : M i ≤ tot M n := Nat.le_trans (by simp [tot]) (tot_mono M (show i + 1 ≤ n from h))

/-- a row of bytes that can be read, full of one mark -/
def Rd (w : World) (a : Option Addr) (n x : Nat) : Prop := n = 0 ∨ ∃ g, a = some ⟨g, 0, none⟩ ∧ (∃ c, w.heap[g]? = some (.cells c 5 (0, 0))) ∧ ∀ k, k < n → w.cell? ⟨g, k, none⟩ = some (.int .u8 (x : Int))
theorem Rd.keep {w w' : World} {a : Option Addr} {n x : Nat} {r : Option Nat} (h : Rd w a n x) (hg : w.grownBy w' r) (hne : ∀ g, a = some ⟨g, 0, none⟩ → some g ≠ r) : Rd w' a n x := by
  rcases h with h | ⟨g, rfl, ⟨c, hc⟩, h⟩
  · exact .inl h
  · refine .inr ⟨g, rfl, ⟨c, ?_⟩, fun k hk => hg.cell (h k hk) (hne g rfl)⟩
    rw [hg.block g (Array.getElem?_eq_some_iff.1 hc).1 (hne g rfl)]
    exact hc
theorem Rd.of {w : World} {B : Nat} {a a' : Option Addr} {n n' c c' x : Nat} (h : OwnB w B (.slice a' n' c') n' (rp n' x)) (hn : n ≤ n') (ha : (Value.slice a n c).ownBlock = (Value.slice a' n' c').ownBlock) (hz : ∀ y, a = some y → y = ⟨y.block, 0, none⟩) : Rd w a n x := by
  by_cases h0 : n = 0
  · exact .inl h0
  · rcases h.2 with ⟨_, h1⟩ | ⟨g, cap, cur, hv, hg, hh, r⟩
    · omega
    · have hv' := hv
      simp only [Value.slice.injEq, true_and] at hv
      obtain ⟨rfl, rfl⟩ := hv
      cases a with
      | none => simp [Value.ownBlock] at ha
      | some y =>
        have := hz y rfl
        simp only [Value.ownBlock, Option.some.injEq] at ha
        rw [ha] at this
        subst this
        refine .inr ⟨g, rfl, ⟨cur, hh⟩, fun k hk => ?_⟩
        rw [h.cellAt k (by omega)]
        simp [toI, rp, show k < n' by omega]
theorem Rd.seg {w : World} {a : Option Addr} {n x : Nat} (h : Rd w a n x) : Seg .u8 w a (toI (rp n x)) := by
  rcases h with rfl | ⟨g, rfl, _, h⟩
  · exact .inl rfl
  · refine .inr ⟨g, 0, rfl, fun k hk => ?_⟩
    have hk' : k < n := by simpa [toI, rp] using hk
    rw [Nat.zero_add, h k hk']
    simp [toI, rp, List.getD, hk']
end Go.Proofs.Ytbbhnekdejamiaa.Ap
