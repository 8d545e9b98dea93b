/-
  A list of structs that came in, of any length: what its reading tells of memory; a script of steps on ports.
-/
import Derived.Test.YtaicmpkgcppplaaBase
import Derived.Deep.Slices
import Derived.ProofKit
import Derived.OpenShut
namespace Go.Proofs.Ytaicmpkgcppplaa
open Go.RowKit Go.ChangeShapes Go.WideShapes

/-- the elements lie one behind the other, K cells each -/
def ListG {α : Type} (K : Nat) (cells : α → List Value) (ok : α → Prop) (w : World) (a : Option Addr) (ops : List α) : Prop :=
  ops = [] ∨ ∃ b off, a = some ⟨b, off, none⟩ ∧ b < w.heap.size ∧ ∀ (i : Nat) (o : α), ops[i]? = some o → ok o ∧ ∀ j, j < K → w.cell? ⟨b, off + i * K + j, none⟩ = (cells o)[j]?
theorem ListG.old {α : Type} {K : Nat} {cells : α → List Value} {ok : α → Prop} {w w' : World} {a : Option Addr} {ops : List α} (h : ListG K cells ok w a ops) (hb : Below w.heap.size w w') : ListG K cells ok w' a ops := by
  rcases h with h | ⟨b, off, ha, hlt, hc⟩
  · exact .inl h
  · refine .inr ⟨b, off, ha, by have := hb.size; omega, fun i o ho => ⟨(hc i o ho).1, fun j hj => ?_⟩⟩
    rw [hb.cell (p := ⟨b, off + i * K + j, none⟩) hlt]
    exact (hc i o ho).2 j hj
theorem ListG.at {α : Type} {K : Nat} {cells : α → List Value} {ok : α → Prop} {w : World} {a : Option Addr} {ops : List α} (h : ListG K cells ok w a ops) (i : Nat) (o : α) (ho : ops[i]? = some o) :
    ok o ∧ ∃ b off, a = some ⟨b, off, none⟩ ∧ b < w.heap.size ∧ ∀ j, j < K → w.cell? ⟨b, off + i * K + j, none⟩ = (cells o)[j]? := by
  rcases h with h | ⟨b, off, ha, hlt, hc⟩
  · rw [h] at ho; simp at ho
  · exact ⟨(hc i o ho).1, b, off, ha, hlt, (hc i o ho).2⟩
theorem open_list {α : Type} (K : Nat) (cells : α → List Value) (ok : α → Prop) {H : Type} {enc : TypeId × Value → H} {W : World} {t e : TypeId} {a : Option Addr} {len cap : Nat} {d : DataW H} {p : List MemPlace} {fuel : Nat}
    (ht : Try.prog.underlying t = some (.slice e)) (hc : Try.prog.cellsOf e = K) (hK : 0 < K) (hcl : ∀ o, (cells o).length = K)
    (hel : ∀ (fuel : Nat) (cs : List Value) (x : DataW H × List MemPlace), DataW.trod enc Try.prog W 0 (fun _ => true) true fuel e cs = some x → ∃ o : α, cs = cells o ∧ ok o)
    (h : DataW.trod enc Try.prog W 0 (fun _ => true) true fuel t [.slice a len cap] = some (d, p)) :
    ∃ ops : List α, ops.length = len ∧ ListG K cells ok W a ops ∧ len ≤ 9223372036854775807 := by
  rcases Deep.open_slice ht h with ⟨hcs, hx⟩ | ⟨ad, l, c, m, n, D, Pl, hcs, _, hl, hm, hmm, hx, hev⟩
  · simp only [List.cons.injEq, Value.slice.injEq, and_true] at hcs
    obtain ⟨rfl, rfl, rfl⟩ := hcs
    exact ⟨[], rfl, .inl rfl, by omega⟩
  · simp only [List.cons.injEq, Value.slice.injEq, and_true] at hcs
    obtain ⟨rfl, rfl, rfl⟩ := hcs
    simp only [if_true] at hmm
    subst hmm
    have hlen : len ≤ 9223372036854775807 := by unfold maxLen at hm; omega
    have hall : ∀ i, i < len → ∃ o : α, ok o ∧ ∀ j, j < K → W.cell? (ad.add (i * K + j)) = (cells o)[j]? := by
      intro i hi
      obtain ⟨cs', h1, h2⟩ := hev i (by omega)
      rw [hc] at h1
      obtain ⟨_, _, hcc⟩ := World.cells?_some h1
      obtain ⟨o, rfl, hok⟩ := hel _ _ _ h2
      refine ⟨o, hok, fun j hj => ?_⟩
      have := hcc j hj
      rwa [Deep.add_add] at this
    have hbuild : ∀ k, k ≤ len → ∃ ops : List α, ops.length = k ∧ ∀ i o, ops[i]? = some o → ok o ∧ ∀ j, j < K → W.cell? (ad.add (i * K + j)) = (cells o)[j]? := by
      intro k
      induction k with
      | zero => intro _; exact ⟨[], rfl, by intro i o ho; simp at ho⟩
      | succ k ih =>
        intro hk
        obtain ⟨ops, hl', hops⟩ := ih (by omega)
        obtain ⟨o, ho⟩ := hall k (by omega)
        refine ⟨ops ++ [o], by simp [hl'], ?_⟩
        intro i o' hi'
        by_cases hik : i < k
        · rw [List.getElem?_append_left (by omega)] at hi'
          exact hops i o' hi'
        · rw [List.getElem?_append_right (by omega)] at hi'
          have hi0 : i = k := by
            have := (List.getElem?_eq_some_iff.1 hi').1
            simp at this
            omega
          subst hi0
          rw [hl', Nat.sub_self] at hi'
          simp at hi'
          subst hi'
          exact ho
    obtain ⟨ops, hol, hops⟩ := hbuild len (Nat.le_refl _)
    refine ⟨ops, hol, ?_, hlen⟩
    by_cases h0 : ops = []
    · exact .inl h0
    · have hpos : 0 < ops.length := by
        cases ops with
        | nil => exact absurd rfl h0
        | cons _ _ => simp
      obtain ⟨o, ho⟩ : ∃ o, ops[0]? = some o := ⟨ops[0], by simp [hpos]⟩
      have hc0 := (hops 0 o ho).2 0 hK
      simp only [Nat.zero_mul, Nat.zero_add] at hc0
      obtain ⟨v0, hv0⟩ : ∃ v0, (cells o)[0]? = some v0 := ⟨(cells o)[0]'(by rw [hcl]; exact hK), by simp [hcl, hK]⟩
      rw [hv0] at hc0
      obtain ⟨b, off, spot⟩ := ad
      have hspot : spot = none := by simpa [Addr.add] using World.cell?_spot hc0
      subst hspot
      refine .inr ⟨b, off, rfl, World.block_lt_of_cell? W _ hc0, fun i o' hi' => ⟨(hops i o' hi').1, fun j hj => ?_⟩⟩
      have := (hops i o' hi').2 j hj
      rw [Addr.add_lit] at this
      rw [Nat.add_assoc]
      exact this
theorem open_i64G {H : Type} {enc : TypeId × Value → H} {W : World} {fuel : Nat} {c : Value} {y : DataW H × List MemPlace}
    (h : DataW.trod enc Try.prog W 0 (fun _ => true) true fuel 3 [c] = some y) : ∃ a : Int, c = .int .i64 a ∧ -9223372036854775808 ≤ a ∧ a ≤ 9223372036854775807 := by
  obtain ⟨a, e0, _, wa⟩ := DataW.trod_int Try.underlying3 h
  simp only [List.cons.injEq, and_true] at e0
  subst e0
  refine ⟨a, rfl, ?_⟩
  simp [Lit.wf, IntKind.min, IntKind.max, IntKind.bits, IntKind.signed] at wa
  omega
/-- a step -/
structure OpV where
  kd : Int
  two : Bool
  i : Int
  n : Int
  a : Option Addr
  c : Nat
  fr : List Nat
def OpV.cells (o : OpV) : List Value := [.int .i64 o.kd, .bool o.two, .int .i64 o.i, .int .i64 o.n, .slice o.a o.fr.length o.c]
structure OpV.ok (W : World) (o : OpV) : Prop where
  seg : Seg .u8 W o.a (toI o.fr)
  h256 : ∀ x ∈ o.fr, x < 256
  hn : -9223372036854775808 ≤ o.n ∧ o.n ≤ 9223372036854775807
  hl : o.fr.length ≤ 9223372036854775807
theorem Try.cellsInt : Try.prog.cellsOf 3 = 1 := by kernel_rfl
theorem Try.cellsBool : Try.prog.cellsOf 4 = 1 := by kernel_rfl
theorem Try.cellsByte : Try.prog.cellsOf 5 = 1 := by kernel_rfl
theorem Try.cellsBytes : Try.prog.cellsOf 30 = 1 := by kernel_rfl
theorem Try.cellsOp : Try.prog.cellsOf 33 = 5 := by kernel_rfl
theorem list5 {α : Type} (l : List α) (h : l.length = 5) : ∃ a b c d e, l = [a, b, c, d, e] := by
  match l, h with
  | [a, b, c, d, e], _ => exact ⟨a, b, c, d, e, rfl⟩
theorem open_rowF {H : Type} {enc : TypeId × Value → H} {W : World} {fuel : Nat} {t e : TypeId} {k : IntKind} {c : Value} {y : DataW H × List MemPlace} (ht : Try.prog.underlying t = some (.slice e)) (he : Try.prog.underlying e = some (.int k)) (hc : Try.prog.cellsOf e = 1)
    (h : DataW.trod enc Try.prog W 0 (fun _ => true) true fuel t [c] = some y) : ∃ a len cap zs, c = .slice a len cap ∧ IsRow k W a len cap zs := by
  rcases open_ints ht he hc h with ⟨hcs, hx⟩ | ⟨x, l, cp, zs, hcs, _, hl, hm, hz, hx, hcell, hwz⟩
  · simp only [List.cons.injEq, and_true] at hcs
    subst hcs
    exact ⟨none, 0, 0, [], rfl, .inl ⟨rfl, rfl, rfl, rfl⟩⟩
  · simp only [List.cons.injEq, and_true] at hcs
    subst hcs
    exact ⟨_, l, cp, zs, rfl, .inr ⟨_, rfl, hl, hm, by simpa using hz, hcell, hwz⟩⟩
theorem open_op {H : Type} {enc : TypeId × Value → H} {W : World} (fuel : Nat) (cs : List Value) (x : DataW H × List MemPlace)
    (h : DataW.trod enc Try.prog W 0 (fun _ => true) true fuel 33 cs = some x) : ∃ o : OpV, cs = o.cells ∧ o.ok W := by
  obtain ⟨xs, n, _, rfl, hl, hlen, hf⟩ := DataW.trod_struct Try.underlying33 h
  rw [Try.cellsOp] at hl
  obtain ⟨c0, c1, c2, c3, c4, rfl⟩ := list5 cs hl
  obtain ⟨y0, y1, y2, y3, y4, rfl⟩ := list5 xs hlen
  have f0 := hf 0 _ rfl
  have f1 := hf 1 _ rfl
  have f2 := hf 2 _ rfl
  have f3 := hf 3 _ rfl
  have f4 := hf 4 _ rfl
  simp [Try.cellsInt, Try.cellsBool, Try.cellsBytes] at f0 f1 f2 f3 f4
  obtain ⟨kd, rfl, _⟩ := open_i64G f0
  obtain ⟨two, e1, _⟩ := DataW.trod_bool Try.underlying4 f1
  simp only [List.cons.injEq, and_true] at e1
  subst e1
  obtain ⟨i, rfl, _⟩ := open_i64G f2
  obtain ⟨nn, rfl, hn1, hn2⟩ := open_i64G f3
  obtain ⟨a, len, cap, zs, rfl, hr⟩ := open_rowF Try.underlying30 Try.underlying5 Try.cellsByte f4
  obtain ⟨bs, hl, hs, h1, h2, h256⟩ := hr.bytes
  exact ⟨⟨kd, two, i, nn, a, cap, bs⟩, by simp [OpV.cells, hl], hs, h256, ⟨hn1, hn2⟩, by show bs.length ≤ _; omega⟩
def Ops (w : World) (a : Option Addr) (ops : List OpV) : Prop := ListG 5 OpV.cells (OpV.ok w) w a ops
theorem open_ops {H : Type} {enc : TypeId × Value → H} {W : World} {a : Option Addr} {len cap : Nat} {d : DataW H} {p : List MemPlace} {fuel : Nat}
    (h : DataW.trod enc Try.prog W 0 (fun _ => true) true fuel 22 [.slice a len cap] = some (d, p)) :
    ∃ ops : List OpV, ops.length = len ∧ Ops W a ops ∧ len ≤ 9223372036854775807 :=
  open_list 5 OpV.cells (OpV.ok W) Try.underlying22 Try.cellsOp (by decide) (fun _ => rfl) open_op h
end Go.Proofs.Ytaicmpkgcppplaa
