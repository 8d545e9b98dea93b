/-
  weirlaw0.errs and weirlaw0.limits: rows of pairs, each of two like numbers.
-/
import Derived.Test.YthknonnbbkigcaaDoorProg
import Derived.WalkKit
import Derived.WalkSpells
import Derived.WalkLawsBesides
import Derived.Great.BuildSlice
import Derived.Great.Frames
import Derived.Great.Walk
namespace Go.Proofs.YthknonnbbkigcaaDoor
open Go.RowKit

/-- the frame behind a run of 'build's that read no world -/
def buildsTo (P : Program) : Act → List Oper → Option Act
  | a, [] => some a
  | a, o :: os =>
    match o.guard, o.op with
    | none, .build t parts => (P.built t (parts.map fun (i, x) => (i, a.eval x)).toList).bind fun cells => buildsTo P (a.put o.dst (.agg cells)) os
    | _, _ => none
theorem wpList_builds {P : Program} {ops : Array Oper} {Q : Exit → Act → World → Prop} {w : World} : ∀ (os : List Oper) (rest : List Oper) (a b : Act), buildsTo P a os = some b → wpList P ops Q rest b w → wpList P ops Q (os ++ rest) a w
  | [], rest, a, b, h, k => by
    simp only [buildsTo, Option.some.injEq] at h
    subst h
    exact k
  | o :: os, rest, a, b, h, k => by
    unfold buildsTo at h
    split at h
    · rename_i t parts hg ho
      obtain ⟨cells, hc, h2⟩ := Option.bind_eq_some_iff.1 h
      refine wpList_build hg t parts ho (by rw [hc]; rfl) ?_
      rw [hc]
      exact wpList_builds os rest _ b h2 k
    · cases h
theorem builds_size {P : Program} : ∀ (os : List Oper) (a b : Act), buildsTo P a os = some b → b.tmps.size = a.tmps.size ∧ b.defers = a.defers
  | [], a, b, h => by
    simp only [buildsTo, Option.some.injEq] at h
    subst h
    exact ⟨rfl, rfl⟩
  | o :: os, a, b, h => by
    unfold buildsTo at h
    split at h
    · obtain ⟨cells, hc, h2⟩ := Option.bind_eq_some_iff.1 h
      have := builds_size os _ b h2
      rw [Act.size_put, Act.defers_put'] at this
      exact this
    · cases h
theorem two_of_length {α : Type} : ∀ (l : List α), l.length = 2 → ∃ a b, l = [a, b]
  | [a, b], _ => ⟨a, b, rfl⟩
/-- A run of 'build's, a slice literal of what they made, and its assignment to the slot 0: what the frame and the world are behind it. -/
theorem wpList_table {P : Program} {ops : Array Oper} {Q : Exit → Act → World → Prop} {w : World} {l : List Oper} {a : Act} (n d m : Nat) (t e : TypeId) (len : Nat) (parts : Array (Nat × Operand)) (cells : Array Value) (ie : TypeInfo) (z : Value)
    (h1 : (l.drop n).map (fun o => o.guard) = [none, none]) (h2 : (l.drop n).map (fun o => o.dst) = [some d, some 0]) (h3 : (l.drop n).map (fun o => o.op) = [.buildSlice t len parts, .assign (.tmp d)])
    (hb : (buildsTo P a (l.take n)).isSome = true) (hm : a.tmps.size = m) (hd : d < m) (hdf : a.defers = [])
    (hu : P.underlying t = some (.slice e)) (hie : P.info? e = some ie) (hz : ie.zero = some z) (hsmall : ¬ len * ie.size > 2 ^ 24) (hpos : ¬ len * ie.size = 0)
    (hf : Instr.fill (fun i => some (i * ie.size, ie.size)) ((Array.range (len * ie.size)).map (z.cells[· % z.cells.size]!)) (parts.map fun (i, x) => (i, ((buildsTo P a (l.take n)).getD a).eval x)).toList = some cells)
    (h : ∀ b : Act, b.tmps.size = m → b.defers = [] → b.tmps[0]? = some (.slice (some ⟨w.heap.size, 0, none⟩) len len) → Q .normal b (w.alloc (.cells cells e))) : wpList P ops Q l a w := by
  obtain ⟨b, hb'⟩ := Option.isSome_iff_exists.1 hb
  obtain ⟨o1, o2, ho⟩ : ∃ o1 o2, l.drop n = [o1, o2] := by
    have hl := congrArg List.length h1
    simp only [List.length_map, List.length_cons, List.length_nil] at hl
    exact two_of_length _ hl
  rw [ho] at h1 h2 h3
  simp only [List.map_cons, List.map_nil, List.cons.injEq, and_true] at h1 h2 h3
  rw [hb'] at hf
  obtain ⟨hs, hdb⟩ := builds_size _ _ _ hb'
  rw [hm] at hs
  rw [hdf] at hdb
  rw [← List.take_append_drop n l]
  refine wpList_builds _ _ _ b hb' ?_
  rw [ho]
  refine wpList_buildSlice h1.1 t e len parts h3.1 cells ie z hu hie hz hsmall hpos hf ?_
  rw [h2.1]
  have hv : (b.put (some d) (.slice (some ⟨w.heap.size, 0, none⟩) len len)).eval (.tmp d) = .slice (some ⟨w.heap.size, 0, none⟩) len len := Act.eval_put_same _ _ _ (by rw [hs]; exact hd)
  refine Great.wpList_runTo h1.2 (some 0) h2.2 (.slice (some ⟨w.heap.size, 0, none⟩) len len) (w.alloc (.cells cells e)) ?_ ?_
  · unfold execOp
    simp only [h3.2, hv]
    rfl
  · refine wpList_nil (h _ ?_ ?_ ?_)
    · rw [Act.size_put, Act.size_put, hs]
    · rw [Act.defers_put', Act.defers_put', hdb]
    · have h0 : 0 < b.tmps.size := by omega
      simp [Act.put, h0]
def twice (zs : List Int) : List Value := zs.flatMap fun z => [.int .i64 z, .int .i64 z]
def errsL : List Int := [0, 1, 2, 10, 11, 12, 13, 20, 21, 22, 30, 31, 32, 33, 34, 40, 41, 42, 43, 44, 45, 46, 50, 51, 52, 53, 54, 55, 56, 57, 58, 60, 61, 62, 63, 64, 65, 66, 67, 68, 70, 71, 72, 73, 74, 75, 76, 77, 78, 80, 81, 82, 83, 84, 85, 86, 91, 92, 93, 94, 95, 96, 97, 98, 100, 101, 102, 110, 111, 112, 113, 114, 120, 121, 122, 123, 124, 125, 126, 127, 130, 131, 132, 133, 140, 141, 142, 143, 144, 150, 151, 152, 153, 160, 161, 162, 163, 164, 165, 166, 167, 170, 171, 172, 173, 174, 175, 176, 177, 180, 181, 182, 183, 190, 191, 192, 193, 194, 195, 196, 197, 198, 199, 200, 201, 202, 203, 204]
theorem errs_fill (ie : TypeInfo) (hs : ie.size = 2) (P : List (Nat × Value)) (hp : P = (errsL.zipIdx 0).map fun x => (x.2, .agg #[.int .i64 x.1, .int .i64 x.1])) :
    Instr.fill (fun i => some (i * ie.size, ie.size)) ((Array.range (128 * ie.size)).map ((Value.agg #[.int .i64 0, .int .i64 0]).cells[· % (Value.agg #[.int .i64 0, .int .i64 0]).cells.size]!)) P = some (twice errsL).toArray := by
  rw [hs, hp]
  kernel_rfl
set_option maxRecDepth 1000000 in
set_option maxHeartbeats 1600000 in
theorem errs_any (w : World) : Calls Tryd.prog 4 #[] w fun e w' => e = .returned (.slice (some ⟨w.heap.size, 0, none⟩) 128 128) ∧ w' = w.alloc (.cells (twice errsL).toArray 25) := by
  obtain ⟨ie, hie, hz, hs⟩ : ∃ ie, Tryd.prog.info? 25 = some ie ∧ ie.zero = some (.agg #[.int .i64 0, .int .i64 0]) ∧ ie.size = 2 := by
    have h : (Tryd.prog.info? 25).map (fun i => (i.zero, i.size)) = some (some (.agg #[.int .i64 0, .int .i64 0]), 2) := by kernel_rfl
    obtain ⟨ie, hie, h2⟩ := Option.map_eq_some_iff.1 h
    simp only [Prod.mk.injEq] at h2
    exact ⟨ie, hie, h2⟩
  go_enter Tryd.func4, Tryd.ntmps4
  apply wp_seq_k
  intro K0 hK0
  apply wp_region_lit
  refine Great.wpList_runTo rfl (some 0) rfl (.slice none 0 0) w rfl ?_
  apply wpList_nil
  refine hK0 _ _ ?_
  apply wp_seq_k
  intro K1 hK1
  apply wp_region_lit
  refine wpList_table 128 129 130 22 25 128 ((List.range 128).map fun i => (i, Operand.tmp (i + 1))).toArray (twice errsL).toArray ie (.agg #[.int .i64 0, .int .i64 0])
    (by as_aux_lemma => kernel_rfl) (by as_aux_lemma => kernel_rfl) (by as_aux_lemma => kernel_rfl) (by as_aux_lemma => kernel_rfl) (by as_aux_lemma => kernel_rfl) (by decide) rfl
    (by kernel_rfl) hie hz (by rw [hs]; decide) (by rw [hs]; decide) (errs_fill ie hs _ (by as_aux_lemma => kernel_rfl)) ?_
  intro b _ hbd hb0
  refine hK1 _ _ ?_
  clear hK0 hK1 K0 K1 hie hz hs
  refine wp_ret ?_
  refine bodyPost_ret (results_tmp rfl _ _ _) hbd ⟨?_, rfl⟩
  rw [Array.getD_eq_getD_getElem?, hb0]
  rfl
def limitsL : List Int := [65535, 64, 4096, 8192, 64, 2, 60, 8, 256, 16, 256, 1024, 1048576, 68, 1280, 9000, 8, 256, 1024, 64, 16, 256, 16, 1024, 4096, 8, 64, 4096, 1048576, 512, 0, 1, 2, 3, 4, 5, 6, 7, 1, 2, 3, 4, 5, 6, 7, 1, 2, 1, 2, 4, 8, 16, 32, 1, 2, 3, 0, 1, 2, 3, 1, 2, 3, 4, 5, 1, 2, 1, 2, 3, 4, 5, 1, 2, 3, 4, 1, 2, 3, 1, 2, 3, 1, 2, 3, 4, 5, 6, 7]
theorem limits_fill (ie : TypeInfo) (hs : ie.size = 2) (P : List (Nat × Value)) (hp : P = (limitsL.zipIdx 0).map fun x => (x.2, .agg #[.int .i64 x.1, .int .i64 x.1])) :
    Instr.fill (fun i => some (i * ie.size, ie.size)) ((Array.range (89 * ie.size)).map ((Value.agg #[.int .i64 0, .int .i64 0]).cells[· % (Value.agg #[.int .i64 0, .int .i64 0]).cells.size]!)) P = some (twice limitsL).toArray := by
  rw [hs, hp]
  kernel_rfl
set_option maxRecDepth 1000000 in
set_option maxHeartbeats 1600000 in
theorem limits_any (w : World) : Calls Tryd.prog 5 #[] w fun e w' => e = .returned (.slice (some ⟨w.heap.size, 0, none⟩) 89 89) ∧ w' = w.alloc (.cells (twice limitsL).toArray 25) := by
  obtain ⟨ie, hie, hz, hs⟩ : ∃ ie, Tryd.prog.info? 25 = some ie ∧ ie.zero = some (.agg #[.int .i64 0, .int .i64 0]) ∧ ie.size = 2 := by
    have h : (Tryd.prog.info? 25).map (fun i => (i.zero, i.size)) = some (some (.agg #[.int .i64 0, .int .i64 0]), 2) := by kernel_rfl
    obtain ⟨ie, hie, h2⟩ := Option.map_eq_some_iff.1 h
    simp only [Prod.mk.injEq] at h2
    exact ⟨ie, hie, h2⟩
  go_enter Tryd.func5, Tryd.ntmps5
  apply wp_seq_k
  intro K0 hK0
  apply wp_region_lit
  refine Great.wpList_runTo rfl (some 0) rfl (.slice none 0 0) w rfl ?_
  apply wpList_nil
  refine hK0 _ _ ?_
  apply wp_seq_k
  intro K1 hK1
  apply wp_region_lit
  refine wpList_table 89 90 91 22 25 89 ((List.range 89).map fun i => (i, Operand.tmp (i + 1))).toArray (twice limitsL).toArray ie (.agg #[.int .i64 0, .int .i64 0])
    (by as_aux_lemma => kernel_rfl) (by as_aux_lemma => kernel_rfl) (by as_aux_lemma => kernel_rfl) (by as_aux_lemma => kernel_rfl) (by as_aux_lemma => kernel_rfl) (by decide) rfl
    (by kernel_rfl) hie hz (by rw [hs]; decide) (by rw [hs]; decide) (limits_fill ie hs _ (by as_aux_lemma => kernel_rfl)) ?_
  intro b _ hbd hb0
  refine hK1 _ _ ?_
  clear hK0 hK1 K0 K1 hie hz hs
  refine wp_ret ?_
  refine bodyPost_ret (results_tmp rfl _ _ _) hbd ⟨?_, rfl⟩
  rw [Array.getD_eq_getD_getElem?, hb0]
  rfl
end Go.Proofs.YthknonnbbkigcaaDoor
