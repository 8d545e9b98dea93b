/-
  A script of steps (three numbers each) that came in: what its reading tells of memory.
-/
import Derived.Test.YtcgfdhmegagjdaaOwn
import Derived.Test.YtcgfdhmegagjdaaBulk
import Derived.Deep.Slices
import Derived.ProofKit
import Derived.OpenShut
namespace Go.Proofs.Ytcgfdhmegagjdaa
open Go.RowKit Go.ChangeShapes Go.WideShapes

/-- one step, as it lies in memory -/
structure StepV where
  kd : Int
  obj : Int
  n : Int
def StepV.cells (o : StepV) : List Value := [.int .i64 o.kd, .int .i64 o.obj, .int .i64 o.n]
def Steps (w : World) (a : Option Addr) (ops : List StepV) : Prop :=
  ops = [] ∨ ∃ b off, a = some ⟨b, off, none⟩ ∧ b < w.heap.size ∧ ∀ (i : Nat) (o : StepV), ops[i]? = some o → o.n ≤ 9223372036854775807 ∧ ∀ j, w.cell? ⟨b, off + i * 3 + j, none⟩ = o.cells[j]? ∨ 3 ≤ j
theorem Steps.old {w w' : World} {a : Option Addr} {ops : List StepV} (h : Steps w a ops) (hb : Below w.heap.size w w') : Steps w' a ops := by
  rcases h with h | ⟨b, off, ha, hlt, hc⟩
  · exact .inl h
  · refine .inr ⟨b, off, ha, by have := hb.size; omega, fun i o ho => ⟨(hc i o ho).1, fun j => ?_⟩⟩
    rw [hb.cell (p := ⟨b, off + i * 3 + j, none⟩) hlt]
    exact (hc i o ho).2 j
theorem steps_cells {w : World} {b off : Nat} {ops : List StepV} (hs : Steps w (some ⟨b, off, none⟩) ops) (i : Nat) (o : StepV) (ho : ops[i]? = some o) :
    w.cell? ⟨b, off + i * 3, none⟩ = some (.int .i64 o.kd) ∧ w.cell? ⟨b, off + i * 3 + 1, none⟩ = some (.int .i64 o.obj) ∧ w.cell? ⟨b, off + i * 3 + 2, none⟩ = some (.int .i64 o.n) ∧ o.n ≤ 9223372036854775807 := by
  rcases hs with hnil | ⟨b', off', e, _, hc⟩
  · rw [hnil] at ho; simp at ho
  · simp only [Option.some.injEq, Addr.mk.injEq, and_true] at e
    obtain ⟨rfl, rfl⟩ := e
    have h := (hc i o ho).2
    refine ⟨?_, ?_, ?_, (hc i o ho).1⟩
    · rcases h 0 with h | h
      · rw [← Nat.add_zero (off + i * 3), h]; rfl
      · omega
    · rcases h 1 with h | h
      · rw [h]; rfl
      · omega
    · rcases h 2 with h | h
      · rw [h]; rfl
      · omega
theorem bulk_mem {H : Type} {d : DataW H} {l : List (DataW H)} (h : d ∈ l) : Rows.uptoBulk d ≤ Rows.uptoBulkAll l := by
  induction l with
  | nil => cases h
  | cons x r ih =>
    simp only [Rows.uptoBulkAll]
    cases List.mem_cons.1 h with
    | inl e => subst e; omega
    | inr e => have := ih e; omega
theorem Try.cellsInt : Try.prog.cellsOf 3 = 1 := by kernel_rfl
theorem Try.cellsStep : Try.prog.cellsOf 68 = 3 := by kernel_rfl
theorem list3 {α : Type} (l : List α) (h : l.length = 3) : ∃ a b c, l = [a, b, c] := by
  match l, h with
  | [a, b, c], _ => exact ⟨a, b, c, rfl⟩
/-- an integer in a field -/
theorem open_i64 {H : Type} {enc : TypeId × Value → H} {W : World} {fuel : Nat} {c : Value} {y : DataW H × List MemPlace}
    (h : DataW.trod enc Try.prog W 0 (fun _ => true) true fuel 3 [c] = some y) : ∃ a : Int, c = .int .i64 a ∧ a ≤ 9223372036854775807 := by
  obtain ⟨a, e0, _, wa⟩ := DataW.trod_int Try.underlying3 h
  simp only [List.cons.injEq, and_true] at e0
  subst e0
  refine ⟨a, rfl, ?_⟩
  simp [Lit.wf, IntKind.min, IntKind.max, IntKind.bits, IntKind.signed] at wa
  omega
theorem open_step {H : Type} {enc : TypeId × Value → H} {W : World} {fuel : Nat} {cs : List Value} {x : DataW H × List MemPlace}
    (h : DataW.trod enc Try.prog W 0 (fun _ => true) true fuel 68 cs = some x) : ∃ o : StepV, cs = o.cells ∧ o.n ≤ 9223372036854775807 := by
  obtain ⟨xs, n, _, rfl, hl, hlen, hf⟩ := DataW.trod_struct Try.underlying68 h
  rw [Try.cellsStep] at hl
  obtain ⟨c0, c1, c2, rfl⟩ := list3 cs hl
  obtain ⟨y0, y1, y2, rfl⟩ := list3 xs hlen
  have f0 := hf 0 _ rfl
  have f1 := hf 1 _ rfl
  have f2 := hf 2 _ rfl
  simp [Try.cellsInt] at f0 f1 f2
  obtain ⟨kd, rfl, _⟩ := open_i64 f0
  obtain ⟨obj, rfl, _⟩ := open_i64 f1
  obtain ⟨nn, rfl, hn⟩ := open_i64 f2
  exact ⟨⟨kd, obj, nn⟩, rfl, hn⟩
theorem open_steps {H : Type} {enc : TypeId × Value → H} {W : World} {a : Option Addr} {len cap : Nat} {d : DataW H} {p : List MemPlace} {fuel : Nat}
    (h : DataW.trod enc Try.prog W 0 (fun _ => true) true fuel 60 [.slice a len cap] = some (d, p)) (hbulk : Rows.uptoBulk d ≤ 1048576) :
    ∃ ops : List StepV, ops.length = len ∧ Steps W a ops ∧ len ≤ 1048576 := by
  rcases Deep.open_slice Try.underlying60 h with ⟨hcs, hx⟩ | ⟨ad, l, c, m, n, D, Pl, hcs, _, hl, hm, hmm, hx, hel⟩
  · simp only [List.cons.injEq, Value.slice.injEq, and_true] at hcs
    obtain ⟨rfl, rfl, rfl⟩ := hcs
    exact ⟨[], rfl, .inl rfl, by omega⟩
  · simp only [List.cons.injEq, Value.slice.injEq, and_true] at hcs
    obtain ⟨rfl, rfl, rfl⟩ := hcs
    simp only [if_true] at hmm
    subst hmm
    have e := (Prod.mk.inj hx).1
    subst e
    simp only [Rows.uptoBulk] at hbulk
    have hlen : len ≤ 1048576 := by
      have := bulk_len ((List.range len).map D)
      simp only [List.length_map, List.length_range] at this
      omega
    have hall : ∀ i, i < len → ∃ o : StepV, o.n ≤ 9223372036854775807 ∧ ∀ j, j < 3 → W.cell? (ad.add (i * 3 + j)) = o.cells[j]? := by
      intro i hi
      obtain ⟨cs', h1, h2⟩ := hel i (by omega)
      rw [Try.cellsStep] at h1
      obtain ⟨_, hcl, hcc⟩ := World.cells?_some h1
      obtain ⟨o, rfl, hok⟩ := open_step h2
      refine ⟨o, hok, fun j hj => ?_⟩
      have := hcc j hj
      rwa [Deep.add_add] at this
    have hbuild : ∀ k, k ≤ len → ∃ ops : List StepV, ops.length = k ∧ ∀ i o, ops[i]? = some o → o.n ≤ 9223372036854775807 ∧ ∀ j, j < 3 → W.cell? (ad.add (i * 3 + j)) = o.cells[j]? := by
      intro k
      induction k with
      | zero => intro _; exact ⟨[], rfl, by intro i o ho; simp at ho⟩
      | succ k ih =>
        intro hk
        obtain ⟨ops, hl', hops⟩ := ih (by omega)
        obtain ⟨o, ho⟩ := hall k (by omega)
        refine ⟨ops ++ [o], by simp [hl'], ?_⟩
        intro i o' hi'
        by_cases hik : i < k
        · rw [List.getElem?_append_left (by omega)] at hi'
          exact hops i o' hi'
        · rw [List.getElem?_append_right (by omega)] at hi'
          have hi0 : i = k := by
            have := (List.getElem?_eq_some_iff.1 hi').1
            simp at this
            omega
          subst hi0
          rw [hl', Nat.sub_self] at hi'
          simp at hi'
          subst hi'
          exact ho
    obtain ⟨ops, hol, hops⟩ := hbuild len (Nat.le_refl _)
    refine ⟨ops, hol, ?_, hlen⟩
    by_cases h0 : ops = []
    · exact .inl h0
    · have hpos : 0 < ops.length := by
        cases ops with
        | nil => exact absurd rfl h0
        | cons _ _ => simp
      obtain ⟨o, ho⟩ : ∃ o, ops[0]? = some o := ⟨ops[0], by simp [hpos]⟩
      have hc0 := (hops 0 o ho).2 0 (by omega)
      simp only [Nat.zero_mul, Nat.zero_add] at hc0
      obtain ⟨b, off, spot⟩ := ad
      have hspot : spot = none := by
        have h1 : W.cell? (({ block := b, off := off, spot := spot } : Addr).add 0) = some (.int .i64 o.kd) := hc0
        simpa [Addr.add] using World.cell?_spot h1
      subst hspot
      refine .inr ⟨b, off, rfl, World.block_lt_of_cell? W _ hc0, fun i o' hi' => ⟨(hops i o' hi').1, fun j => ?_⟩⟩
      by_cases hj : j < 3
      · left
        have := (hops i o' hi').2 j hj
        rw [Addr.add_lit] at this
        rw [Nat.add_assoc]
        exact this
      · right; omega
end Go.Proofs.Ytcgfdhmegagjdaa
