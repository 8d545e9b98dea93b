/-
  A script of looks that came in: what its reading tells of memory.
-/
import Derived.Test.YtebpaolniemfgabScript
import Derived.Test.YtebpaolniemfgabBulk
import Derived.Deep.Slices
import Derived.ProofKit
import Derived.OpenShut
namespace Go.Proofs.Ytebpaolniemfgab
open Go.RowKit Go.ChangeShapes Go.WideShapes

theorem bulk_mem {H : Type} {d : DataW H} {l : List (DataW H)} (h : d ∈ l) : Rows.uptoBulk d ≤ Rows.uptoBulkAll l := by
  induction l with
  | nil => cases h
  | cons x r ih =>
    simp only [Rows.uptoBulkAll]
    cases List.mem_cons.1 h with
    | inl e => subst e; omega
    | inr e => have := ih e; omega
theorem Try.cellsInt : Try.prog.cellsOf 3 = 1 := by kernel_rfl
theorem Try.cellsBytes : Try.prog.cellsOf 22 = 1 := by kernel_rfl
theorem Try.cellsInts : Try.prog.cellsOf 52 = 1 := by kernel_rfl
theorem Try.cellsByte : Try.prog.cellsOf 5 = 1 := by kernel_rfl
theorem Try.cellsOp : Try.prog.cellsOf 54 = 6 := by kernel_rfl

theorem list6 {α : Type} (l : List α) (h : l.length = 6) : ∃ a b c d e f, l = [a, b, c, d, e, f] := by
  match l, h with
  | [a, b, c, d, e, f], _ => exact ⟨a, b, c, d, e, f, rfl⟩

/-- a slice of integers in a field -/
theorem open_row {H : Type} {enc : TypeId × Value → H} {W : World} {fuel : Nat} {t e : TypeId} {k : IntKind} {c : Value} {y : DataW H × List MemPlace} (ht : Try.prog.underlying t = some (.slice e)) (he : Try.prog.underlying e = some (.int k)) (hc : Try.prog.cellsOf e = 1)
    (h : DataW.trod enc Try.prog W 0 (fun _ => true) true fuel t [c] = some y) : ∃ a len cap zs, c = .slice a len cap ∧ IsRow k W a len cap zs ∧ cap ≤ Rows.uptoBulk y.1 := by
  rcases open_ints ht he hc h with ⟨hcs, hx⟩ | ⟨x, l, cp, zs, hcs, _, hl, hm, hz, hx, hcell, hwz⟩
  · simp only [List.cons.injEq, and_true] at hcs
    subst hcs
    exact ⟨none, 0, 0, [], rfl, .inl ⟨rfl, rfl, rfl, rfl⟩, Nat.zero_le _⟩
  · simp only [List.cons.injEq, and_true] at hcs
    subst hcs
    exact ⟨_, l, cp, zs, rfl, .inr ⟨_, rfl, hl, hm, by simpa using hz, hcell, hwz⟩, bulk_row (p := y.2) hl (by simpa using hz) hx⟩
/-- an integer in a field -/
theorem open_i64 {H : Type} {enc : TypeId × Value → H} {W : World} {fuel : Nat} {c : Value} {y : DataW H × List MemPlace}
    (h : DataW.trod enc Try.prog W 0 (fun _ => true) true fuel 3 [c] = some y) : ∃ a : Int, c = .int .i64 a ∧ a ≤ 9223372036854775807 := by
  obtain ⟨a, e0, _, wa⟩ := DataW.trod_int Try.underlying3 h
  simp only [List.cons.injEq, and_true] at e0
  subst e0
  refine ⟨a, rfl, ?_⟩
  simp [Lit.wf, IntKind.min, IntKind.max, IntKind.bits, IntKind.signed] at wa
  omega

theorem open_op {H : Type} {enc : TypeId × Value → H} {W : World} {fuel : Nat} {cs : List Value} {x : DataW H × List MemPlace}
    (h : DataW.trod enc Try.prog W 0 (fun _ => true) true fuel 54 cs = some x) (hbulk : Rows.uptoBulk x.1 ≤ 1048576) : ∃ o : OpV, cs = o.cells ∧ o.ok W := by
  obtain ⟨xs, n, _, rfl, hl, hlen, hf⟩ := DataW.trod_struct Try.underlying54 h
  rw [Try.cellsOp] at hl
  obtain ⟨c0, c1, c2, c3, c4, c5, rfl⟩ := list6 cs hl
  obtain ⟨y0, y1, y2, y3, y4, y5, rfl⟩ := list6 xs hlen
  have f0 := hf 0 _ rfl
  have f1 := hf 1 _ rfl
  have f2 := hf 2 _ rfl
  have f3 := hf 3 _ rfl
  have f4 := hf 4 _ rfl
  have f5 := hf 5 _ rfl
  simp [Try.cellsInt, Try.cellsBytes, Try.cellsInts] at f0 f1 f2 f3 f4 f5
  obtain ⟨kd, rfl, _⟩ := open_i64 f0
  obtain ⟨at', rfl, ha⟩ := open_i64 f2
  obtain ⟨nn, rfl, hn⟩ := open_i64 f3
  obtain ⟨ba, bl, bc, zb, rfl, rb, nb⟩ := open_row Try.underlying22 Try.underlying5 Try.cellsByte f1
  obtain ⟨wa, wl, wc, zw, rfl, rw', nw⟩ := open_row Try.underlying52 Try.underlying3 Try.cellsInt f4
  obtain ⟨va, vl, vc, zv, rfl, rv, nv⟩ := open_row Try.underlying52 Try.underlying3 Try.cellsInt f5
  simp only [List.map_cons, List.map_nil, Rows.uptoBulk, Rows.uptoBulkAll] at hbulk
  obtain ⟨bs, hbl, hbs, h1, h2, h256⟩ := rb.bytes
  obtain ⟨ws, hwl, hws, h3, _, _⟩ := rw'.seg
  obtain ⟨vs, hvl, hvs, h5, _, _⟩ := rv.seg
  exact ⟨⟨kd, at', nn, ba, bl, bc, bs, wa, wl, wc, ws, va, vl, vc, vs⟩, rfl, ⟨hbl, hbs, h256, by show bl ≤ 1048576; omega, hwl, hws, by show wl ≤ 1048576; omega, hvl, hvs, by show vl ≤ 1048576; omega, h1, h2, ha, hn⟩⟩

theorem open_script {H : Type} {enc : TypeId × Value → H} {W : World} {a : Option Addr} {len cap : Nat} {d : DataW H} {p : List MemPlace} {fuel : Nat}
    (h : DataW.trod enc Try.prog W 0 (fun _ => true) true fuel 51 [.slice a len cap] = some (d, p)) (hbulk : Rows.uptoBulk d ≤ 1048576) :
    ∃ ops : List OpV, ops.length = len ∧ Script W a ops ∧ len ≤ 1048576 := by
  rcases Deep.open_slice Try.underlying51 h with ⟨hcs, hx⟩ | ⟨ad, l, c, m, n, D, Pl, hcs, _, hl, hm, hmm, hx, hel⟩
  · simp only [List.cons.injEq, Value.slice.injEq, and_true] at hcs
    obtain ⟨rfl, rfl, rfl⟩ := hcs
    exact ⟨[], rfl, .inl rfl, by omega⟩
  · simp only [List.cons.injEq, Value.slice.injEq, and_true] at hcs
    obtain ⟨rfl, rfl, rfl⟩ := hcs
    simp only [if_true] at hmm
    subst hmm
    have e := (Prod.mk.inj hx).1
    subst e
    simp only [Rows.uptoBulk] at hbulk
    have hlen : len ≤ 1048576 := by
      have := bulk_len ((List.range len).map D)
      simp only [List.length_map, List.length_range] at this
      omega
    have hD : ∀ i, i < len → Rows.uptoBulk (D i) ≤ 1048576 := fun i hi => by
      have := bulk_mem (d := D i) (l := (List.range len).map D) (List.mem_map.2 ⟨i, List.mem_range.2 hi, rfl⟩)
      omega
    have hall : ∀ i, i < len → ∃ o : OpV, o.ok W ∧ ∀ j, j < 6 → W.cell? (ad.add (i * 6 + j)) = o.cells[j]? := by
      intro i hi
      obtain ⟨cs', h1, h2⟩ := hel i (by omega)
      rw [Try.cellsOp] at h1
      obtain ⟨_, hcl, hcc⟩ := World.cells?_some h1
      obtain ⟨o, rfl, hok⟩ := open_op h2 (hD i hi)
      refine ⟨o, hok, fun j hj => ?_⟩
      have := hcc j hj
      rwa [Deep.add_add] at this
    have hbuild : ∀ k, k ≤ len → ∃ ops : List OpV, ops.length = k ∧ ∀ i o, ops[i]? = some o → o.ok W ∧ ∀ j, j < 6 → W.cell? (ad.add (i * 6 + j)) = o.cells[j]? := by
      intro k
      induction k with
      | zero => intro _; exact ⟨[], rfl, by intro i o ho; simp at ho⟩
      | succ k ih =>
        intro hk
        obtain ⟨ops, hl', hops⟩ := ih (by omega)
        obtain ⟨o, ho⟩ := hall k (by omega)
        refine ⟨ops ++ [o], by simp [hl'], ?_⟩
        intro i o' hi'
        by_cases hik : i < k
        · rw [List.getElem?_append_left (by omega)] at hi'
          exact hops i o' hi'
        · rw [List.getElem?_append_right (by omega)] at hi'
          have hi0 : i = k := by
            have := (List.getElem?_eq_some_iff.1 hi').1
            simp at this
            omega
          subst hi0
          rw [hl', Nat.sub_self] at hi'
          simp at hi'
          subst hi'
          exact ho
    obtain ⟨ops, hol, hops⟩ := hbuild len (Nat.le_refl _)
    refine ⟨ops, hol, ?_, hlen⟩
    by_cases h0 : ops = []
    · exact .inl h0
    · have hpos : 0 < ops.length := by
        cases ops with
        | nil => exact absurd rfl h0
        | cons _ _ => simp
      obtain ⟨o, ho⟩ : ∃ o, ops[0]? = some o := ⟨ops[0], by simp [hpos]⟩
      have hc0 := (hops 0 o ho).2 0 (by omega)
      simp only [Nat.zero_mul, Nat.zero_add] at hc0
      obtain ⟨b, off, spot⟩ := ad
      have hspot : spot = none := by
        have h1 : W.cell? (({ block := b, off := off, spot := spot } : Addr).add 0) = some (.int .i64 o.kd) := hc0
        simpa [Addr.add] using World.cell?_spot h1
      subst hspot
      refine .inr ⟨b, off, rfl, World.block_lt_of_cell? W _ hc0, fun i o' hi' => ⟨(hops i o' hi').1, fun j => ?_⟩⟩
      by_cases hj : j < 6
      · left
        have := (hops i o' hi').2 j hj
        rw [Addr.add_lit] at this
        rw [Nat.add_assoc]
        exact this
      · right; omega
end Go.Proofs.Ytebpaolniemfgab
