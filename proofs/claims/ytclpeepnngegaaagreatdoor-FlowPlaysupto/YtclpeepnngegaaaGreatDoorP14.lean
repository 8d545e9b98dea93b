/-
  FlLs FlSf FlSg FlDump: lemmas of the proof of FlowPlays, and walks through the functions that it calls.
-/
import Derived.Maps.AppendAt
import Derived.Shelf.SlSortCmp.WholeK
import Derived.Ground.SlsfProg
import Derived.Test.YtclpeepnngegaaaGreatDoorP00
import Derived.Test.YtclpeepnngegaaaGreatDoorP13
namespace Go.Proofs.YtclpeepnngegaaaGreatDoor
open Go.RowKit Go.Maps
def fcs (L : List FN) : List Value := L.flatMap fun r => (flC r).toList
theorem flC_len (r : FN) : (flC r).toList.length = 40 := rfl
theorem fcs_app (L K : List FN) : fcs (L ++ K) = fcs L ++ fcs K := by simp [fcs]
theorem fcs_one (r : FN) : fcs [r] = (flC r).toList := by simp [fcs]
theorem fcs_cons (r : FN) (L : List FN) : fcs (r :: L) = (flC r).toList ++ fcs L := by simp [fcs]
theorem fcs_len (L : List FN) : (fcs L).length = L.length * 40 := by
 induction L with
 | nil => rfl
 | cons r L ih => rw [fcs_cons, List.length_append, ih, flC_len]; simp; omega
theorem fcs_get (L : List FN) (i : Nat) (r : FN) (h : L[i]? = some r) (j : Nat) (hj : j < 40) : (fcs L)[i * 40 + j]? = (flC r).toList[j]? := by
 induction L generalizing i with
 | nil => simp at h
 | cons s L ih =>
  rw [fcs_cons]
  cases i with
  | zero =>
   simp only [List.getElem?_cons_zero, Option.some.injEq] at h
   subst h
   rw [Nat.zero_mul, Nat.zero_add, List.getElem?_append_left (by rw [flC_len]; exact hj)]
  | succ i =>
   simp only [List.getElem?_cons_succ] at h
   rw [List.getElem?_append_right (by rw [flC_len]; omega), flC_len, show (i + 1) * 40 + j - 40 = i * 40 + j by omega]
   exact ih i h
theorem flC_one (r : FN) : ∀ u ∈ (flC r).toList, u.oneCell' = true := by simp [flC, Value.oneCell']
def FL (w : World) (base : Nat) (v : Value) (L : List FN) : Prop := w.ownsRow base 72 40 v L.length (fcs L)
theorem FL.nil (w : World) (base : Nat) : FL w base (.slice none 0 0) [] := World.ownsRow_nil _ _ _ _
theorem FL.ch {S : Nat → Prop} {a b : World} {base : Nat} {v : Value} {L : List FN} (h : FL a base v L) (k : Ch S a b) (hS : ∀ g, v.ownBlock = some g → ¬ S g) : FL b base v L := k.owns h hS
theorem FL.below {a b : World} {base : Nat} {v : Value} {L : List FN} (h : FL a base v L) (k : Below a.heap.size a b) : FL b base v L := h.ch (Ch.ofBelow (S := fun _ => False) k) (fun _ _ => id)
theorem FL.at {w : World} {base : Nat} {v : Value} {L : List FN} (h : FL w base v L) (i : Nat) (r : FN) (hr : L[i]? = some r) : ∃ g cap, v = .slice (some ⟨g, 0, none⟩) L.length cap ∧ base ≤ g ∧ g < w.heap.size ∧ w.rangeAt g (i * 40) (flC r).toList := by
 have hi := (List.getElem?_eq_some_iff.1 hr).1
 rcases h.2 with ⟨rfl, h0⟩ | ⟨g, cap, cur, rfl, hb, hg, hnc, hcm, hcs, ht⟩
 · omega
 · refine ⟨g, cap, rfl, hb, (Array.getElem?_eq_some_iff.1 hg).1, fun j u hj => ?_⟩
   have hj' : j < 40 := by have := (List.getElem?_eq_some_iff.1 hj).1; rwa [flC_len] at this
   have hc := h.cells rfl (i * 40 + j) u (by rw [fcs_get L i r hr j hj']; exact hj)
   rwa [Addr.add_lit, Nat.zero_add] at hc
theorem run_bs1f (r : FN) (w : World) : (Instr.buildSlice 34 1 #[(0, .agg (flC r))]).run Tryz.prog w = .ok (.slice (some ⟨w.heap.size, 0, none⟩) 1 1) (w.alloc (.cells (flC r) 72)) := by kernel_rfl
theorem wpList_bs1f {ops : Array Oper} {rest : List Oper} {o : Oper} {a : Act} {w : World} {Q : Exit → Act → World → Prop} (x : Operand) (ho : o.op = .buildSlice 34 1 #[(0, x)]) (r : FN) (hx : a.eval x = .agg (flC r)) (hw : Region.wanted o (yielded ops a.tmps) = true)
 (h : wpList Tryz.prog ops Q rest (a.put o.dst (.slice (some ⟨w.heap.size, 0, none⟩) 1 1)) (w.alloc (.cells (flC r) 72))) : wpList Tryz.prog ops Q (o :: rest) a w := by
 refine wpList_step fun K hK => ?_
 rw [if_pos hw]
 unfold Oper.wp execOp
 simp only [ho, Sem.run_bind, List.map_toArray, List.map_cons, List.map_nil, hx, run_bs1f r w, Result.andThen_ok]
 exact hK _ _ h
theorem Tryz.infoF : ∃ i z, Tryz.prog.info? 72 = some i ∧ i.zero = some z ∧ i.size = 40 ∧ z.cells.size = 40 ∧ i.bytes ≤ 1000 := by
 have h : (Tryz.prog.info? 72).any (fun i => i.zero.any (fun z => i.size == 40 && z.cells.size == 40 && decide (i.bytes ≤ 1000))) = true := by kernel_rfl
 cases hi : Tryz.prog.info? 72 with
 | none => rw [hi] at h; simp at h
 | some i =>
  rw [hi] at h
  cases hz : i.zero with
  | none => rw [Option.any_some, hz] at h; simp at h
  | some z =>
   rw [Option.any_some, hz, Option.any_some] at h
   simp only [Bool.and_eq_true, beq_iff_eq, decide_eq_true_eq] at h
   exact ⟨i, z, rfl, hz, h.1.1, h.1.2, h.2⟩
theorem wpList_app1f {ops : Array Oper} {rest : List Oper} {o : Oper} {a : Act} {w : World} {Q : Exit → Act → World → Prop} (hgd : o.guard = none) (s x : Operand) (ho : o.op = .call { callee := .builtin .append, args := #[s, x], argTypes := #[34, 34] })
 (base : Nat) (v : Value) (L : List FN) (hs : a.eval s = v) (hown : FL w base v L) (B : Nat) (r : FN) (hx : a.eval x = .slice (some ⟨B, 0, none⟩) 1 1) (hB : FloAt w B r) (hL : L.length ≤ 100000) (hbase : base ≤ w.heap.size)
 (h : ∀ v' w', FL w' base v' (L ++ [r]) → w.grownBy w' v.ownBlock → (v'.ownBlock = v.ownBlock ∨ v'.ownBlock = some w.heap.size) → wpList Tryz.prog ops Q rest (a.put o.dst v') w') : wpList Tryz.prog ops Q (o :: rest) a w := by
 obtain ⟨i, z, hi, hz0, hz1, hz2, hz3⟩ := Tryz.infoF
 refine wpList_append_own_at w hgd s x 34 ho base 72 i z 40 i.bytes Tryz.underlying34 hi hz0 hz1 rfl hz2 (by decide) v L.length (fcs L) hs hown ⟨B, 0, none⟩ 1 1 (flC r).toList hx (by rw [flC_len]) ?_ (flC_one r) (by unfold maxLen; omega) ?_ hbase ?_
 · intro j u hj
   rw [Addr.add_lit, Nat.zero_add, hB.cell j]
   simpa using hj
 · calc (L.length + 1) * i.bytes ≤ 100001 * 1000 := Nat.mul_le_mul (by omega) hz3
    _ ≤ _ := by decide
 · intro v' w' h1 h2 _ h4
   refine h v' w' ?_ h2 h4
   show w'.ownsRow base 72 40 v' (L ++ [r]).length (fcs (L ++ [r]))
   rw [fcs_app, fcs_one, List.length_append]
   exact h1
theorem FL.form {w : World} {base : Nat} {v : Value} {L : List FN} (h : FL w base v L) : ∃ va vc, v = .slice va L.length vc := by
 rcases h.2 with ⟨rfl, h0⟩ | ⟨g, cap, cur, rfl, _⟩
 · exact ⟨none, 0, by rw [h0]⟩
 · exact ⟨_, _, rfl⟩
theorem FL.cells {w : World} {base : Nat} {v : Value} {L : List FN} (h : FL w base v L) : ∀ g, v.ownBlock = some g → base ≤ g ∧ g < w.heap.size ∧ ∃ c, w.heap[g]? = some (.cells c 72 (0, 0)) := by
 intro g hg
 rcases h.2 with ⟨rfl, _⟩ | ⟨g', cap, cur, rfl, hb, hh, _⟩
 · simp [Value.ownBlock] at hg
 · simp [Value.ownBlock] at hg; subst hg; exact ⟨hb, (Array.getElem?_eq_some_iff.1 hh).1, cur, hh⟩
theorem FL.mono {w : World} {b b' : Nat} {v : Value} {L : List FN} (h : FL w b v L) (hb : b' ≤ b) : FL w b' v L := by
 refine ⟨h.1, ?_⟩
 rcases h.2 with h2 | ⟨g, cap, cur, rfl, hg, r⟩
 · exact .inl h2
 · exact .inr ⟨g, cap, cur, rfl, Nat.le_trans hb hg, r⟩
end Go.Proofs.YtclpeepnngegaaaGreatDoor
namespace Go.Proofs
open Go.Shelf Go.RowKit Go.Lib Go.Sort
def YtclpeepnngegaaaGreatDoor.sortRt_ren : Go.Shelf.Ren := ⟨fun | 6 => 41 | 15 => 59 | 14 => 58 | 28 => 78 | 29 => 79 | 20 => 70 | 21 => 71 | 22 => 72 | 23 => 73 | 24 => 74 | 25 => 75 | 26 => 76 | 27 => 77 | 46 => 89 | 47 => 90 | 48 => 91 | 49 => 92 | 50 => 93 | 57 => 98 | n => n, fun | 22 => 34 | 24 => 72 | 25 => 93 | 3 => 3 | 39 => 110 | 0 => 0 | 53 => 132 | 55 => 134 | 4 => 4 | 46 => 126 | 45 => 125 | 50 => 99 | 5 => 5 | 9 => 9 | 66 => 143 | 70 => 147 | 76 => 156 | 77 => 138 | n => n, fun | n => n⟩
theorem YtclpeepnngegaaaGreatDoor.sortRt : Go.Proofs.SlLaysF0.n6 Tryz.prog YtclpeepnngegaaaGreatDoor.sortRt_ren := {
  mixed := by kernel_rfl
  f6 := ⟨Tryz.f41.name, by decide, Tryz.func41.trans (congrArg some (by kernel_rfl))⟩
  f14 := ⟨Tryz.f58.name, by decide, Tryz.func58.trans (congrArg some (by kernel_rfl))⟩
  f15 := Tryz.func59.trans (congrArg some (by kernel_rfl))
  f20 := ⟨Tryz.f70.name, by decide, Tryz.func70.trans (congrArg some (by kernel_rfl))⟩
  f21 := ⟨Tryz.f71.name, by decide, Tryz.func71.trans (congrArg some (by kernel_rfl))⟩
  f22 := ⟨Tryz.f72.name, by decide, Tryz.func72.trans (congrArg some (by kernel_rfl))⟩
  f23 := ⟨Tryz.f73.name, by decide, Tryz.func73.trans (congrArg some (by kernel_rfl))⟩
  f24 := ⟨Tryz.f74.name, by decide, Tryz.func74.trans (congrArg some (by kernel_rfl))⟩
  f25 := ⟨Tryz.f75.name, by decide, Tryz.func75.trans (congrArg some (by kernel_rfl))⟩
  f26 := ⟨Tryz.f76.name, by decide, Tryz.func76.trans (congrArg some (by kernel_rfl))⟩
  f27 := ⟨Tryz.f77.name, by decide, Tryz.func77.trans (congrArg some (by kernel_rfl))⟩
  f28 := Tryz.func78.trans (congrArg some (by kernel_rfl))
  f29 := Tryz.func79.trans (congrArg some (by kernel_rfl))
  f46 := ⟨Tryz.f89.name, by decide, Tryz.func89.trans (congrArg some (by kernel_rfl))⟩
  f47 := Tryz.func90.trans (congrArg some (by kernel_rfl))
  f48 := Tryz.func91.trans (congrArg some (by kernel_rfl))
  f49 := ⟨Tryz.f92.name, by decide, Tryz.func92.trans (congrArg some (by kernel_rfl))⟩
  f50 := ⟨Tryz.f93.name, by decide, Tryz.func93.trans (congrArg some (by kernel_rfl))⟩
  f57 := ⟨Tryz.f98.name, by decide, Tryz.func98.trans (congrArg some (by kernel_rfl))⟩
  t0 := Tryz.underlying0
  a0 := Tryz.isAgg0
  z0 := Tryz.sizeOf0
  v0 := Tryz.zeroValue0
  t3 := Tryz.underlying3
  a3 := Tryz.isAgg3
  z3 := Tryz.sizeOf3
  v3 := Tryz.zeroValue3
  t4 := Tryz.underlying4
  a4 := Tryz.isAgg4
  z4 := Tryz.sizeOf4
  v4 := Tryz.zeroValue4
  t5 := Tryz.underlying5
  a5 := Tryz.isAgg5
  z5 := Tryz.sizeOf5
  v5 := Tryz.zeroValue5
  t9 := Tryz.underlying9
  a9 := Tryz.isAgg9
  z9 := Tryz.sizeOf9
  v9 := Tryz.zeroValue9
  t22 := Tryz.underlying34
  a22 := Tryz.isAgg34
  z22 := Tryz.sizeOf34
  v22 := Tryz.zeroValue34
  t25 := Tryz.underlying93
  a25 := Tryz.isAgg93
  z25 := Tryz.sizeOf93
  v25 := Tryz.zeroValue93
  t39 := Tryz.underlying110
  a39 := Tryz.isAgg110
  z39 := Tryz.sizeOf110
  v39 := Tryz.zeroValue110
  t45 := Tryz.underlying125
  a45 := Tryz.isAgg125
  z45 := Tryz.sizeOf125
  v45 := Tryz.zeroValue125
  t46 := Tryz.underlying126
  a46 := Tryz.isAgg126
  z46 := Tryz.sizeOf126
  v46 := Tryz.zeroValue126
  t50 := Tryz.underlying99
  a50 := Tryz.isAgg99
  z50 := Tryz.sizeOf99
  v50 := Tryz.zeroValue99
  t53 := Tryz.underlying132
  a53 := Tryz.isAgg132
  z53 := Tryz.sizeOf132
  v53 := Tryz.zeroValue132
  t55 := Tryz.underlying134
  a55 := Tryz.isAgg134
  z55 := Tryz.sizeOf134
  v55 := Tryz.zeroValue134
  t66 := Tryz.underlying143
  a66 := Tryz.isAgg143
  z66 := Tryz.sizeOf143
  v66 := Tryz.zeroValue143
  t70 := Tryz.underlying147
  a70 := Tryz.isAgg147
  z70 := Tryz.sizeOf147
  v70 := Tryz.zeroValue147
  t76 := Tryz.underlying156
  a76 := Tryz.isAgg156
  z76 := Tryz.sizeOf156
  v76 := Tryz.zeroValue156
  t77 := Tryz.underlying138
  a77 := Tryz.isAgg138
  z77 := Tryz.sizeOf138
  v77 := Tryz.zeroValue138 }
end Go.Proofs
namespace Go.Proofs.YtclpeepnngegaaaGreatDoor
open Go.RowKit Go.Maps
theorem ord_swo : Go.Sort.SWO (Go.Proofs.ltOf ordV) where
 irrefl x := by
  unfold Go.Proofs.ltOf
  rw [decide_eq_false_iff_not]
  have := ordV_cmp.anti x x
  omega
 trans x y z h1 h2 := by
  unfold Go.Proofs.ltOf at *
  rw [decide_eq_true_iff] at *
  have a1 := ordV_cmp.anti x y
  have a2 := ordV_cmp.anti y z
  have a3 := ordV_cmp.anti x z
  have t1 := ordV_cmp.tran x y z
  have t2 := ordV_cmp.tran z x y
  omega
 ntrans x y z h1 h2 := by
  unfold Go.Proofs.ltOf at *
  rw [decide_eq_false_iff_not] at *
  have a1 := ordV_cmp.anti x y
  have a2 := ordV_cmp.anti y z
  have a3 := ordV_cmp.anti x z
  have t1 := ordV_cmp.tran z y x
  omega
instance : Inhabited FN := ⟨fz0⟩
def fcL (k : FN) : List Value := (flC k).toList
theorem fcL_len (k : FN) : (fcL k).length = 40 := rfl
theorem order_lays (blk off size : Nat) (w : World) : Go.Proofs.CmpLays Tryz.prog 42 #[] fcL 40 ordV blk off size w := fun _ _ _ _ a b => (order_gr a b _).mono fun _ _ ⟨he, hg⟩ => ⟨he, hg.grow⟩
end Go.Proofs.YtclpeepnngegaaaGreatDoor
namespace Go.Proofs.YtclpeepnngegaaaGreatDoor
open Go.RowKit Go.Maps
def SortsK : Prop := ∀ (A : World) (base : Nat) (v : Value) (L : List FN), FL A base v L → (∃ g c, v = .slice (some ⟨g, 0, none⟩) L.length c) → L.length ≤ 4096 → Calls Tryz.prog 41 #[v, .func (.func 42) #[] #[]] A fun e w' => e = .returned (.tuple #[]) ∧ ∃ L', L'.Perm L ∧ L'.Pairwise (fun a b => 0 ≤ ordV b a) ∧ FL w' base v L' ∧ Ch (fun q => v.ownBlock = some q) A w'
theorem flat_get (L : List FN) (t : Nat) (h : t < L.length * 40) : (Go.Sort.flatK fcL 40 L.toArray)[t]! = ((fcs L)[t]?).getD default := by
 have hq : t / 40 < L.length := by omega
 have hm : t % 40 < 40 := Nat.mod_lt _ (by decide)
 rw [Go.Sort.get_flatK fcL 40 L.toArray t (by simpa using h)]
 have e1 : t / 40 * 40 + t % 40 = t := by omega
 have hs : L[t / 40]? = some L[t / 40] := List.getElem?_eq_getElem hq
 have e2 := fcs_get L (t / 40) _ hs (t % 40) hm
 rw [e1] at e2
 rw [e2]
 have e3 : L.toArray[t / 40]! = L[t / 40] := by simp [hq]
 rw [e3]
 show (fcL L[t / 40])[t % 40]! = ((flC L[t / 40]).toList[t % 40]?).getD default
 rw [List.getElem!_eq_getElem?_getD]
 rfl
theorem fcs_some (L : List FN) (t : Nat) (h : t < L.length * 40) : ∃ u, (fcs L)[t]? = some u := ⟨_, List.getElem?_eq_getElem (by rw [fcs_len]; exact h)⟩
theorem FL.holds {A : World} {base g c : Nat} {L : List FN} (h : FL A base (.slice (some ⟨g, 0, none⟩) L.length c) L) : Go.Sort.HoldsK fcL 40 A g 0 L.toArray := by
 intro j hj
 rw [Go.Sort.size_flatK, List.size_toArray] at hj
 obtain ⟨u, hu⟩ := fcs_some L j hj
 rw [flat_get L j hj, hu]
 have hc := World.ownsRow.cells (show A.ownsRow base 72 40 (.slice (some ⟨g, 0, none⟩) L.length c) L.length (fcs L) from h) rfl j u hu
 rw [Addr.add_lit] at hc
 refine ⟨hc, ?_⟩
 rcases h.2 with ⟨e, _⟩ | ⟨g', cap, cur, e, hb, hh, hr⟩
 · cases e
 · simp only [Value.slice.injEq, Option.some.injEq, Addr.mk.injEq, and_true, true_and] at e
   obtain ⟨rfl, rfl⟩ := e
   simp [World.frozen?, hh]
theorem sort_block (A : World) (g n : Nat) (d : Array FN) (os : Array Obj) (k : Nat) (hk : k < A.heap.size) : (Go.Proofs.sortWorldK fcL 40 A g 0 n d os).heap[k]? = if g = k then (A.heap[k]?).map (Go.Sort.onCells (Go.Sort.putCells id 0 (Go.Sort.flatK fcL 40 d))) else A.heap[k]? := by
 unfold Go.Proofs.sortWorldK
 rw [Go.Sort.heap_grow_old _ _ (by rw [Go.Sort.size_putRowK]; exact hk)]
 show (A.heap.modify g (Go.Sort.onCells (Go.Sort.putCells id 0 (Go.Sort.flatK fcL 40 d))))[k]? = _
 rw [Array.getElem?_modify]
theorem sorts : SortsK := by
 intro A base v L hQL hv hl
 obtain ⟨g, c, rfl⟩ := hv
 have hblk : g < A.heap.size := (hQL.cells g rfl).2.1
 have eg : ∀ args w, (callFunc 42 args).run Tryz.prog w = .ok (.enter 42 args) w := enters_of Tryz.func42 (by kernel_rfl) rfl
 have hcon := Go.Proofs.AnyQ.slices_SortFunc sortRt 40 Tryz.isAgg72 Tryz.sizeOf72 fcL fcL_len (fun x => flC_one x) ordV ord_swo 42 #[] g 0 c L.toArray A eg (order_lays g 0 L.toArray.size A) (FL.holds hQL) hblk (by rw [List.size_toArray]; omega)
 change Calls Tryz.prog 41 #[.slice (some ⟨g, 0, none⟩) L.toArray.size c, .func (.func 42) #[] #[]] A _ at hcon
 rw [List.size_toArray] at hcon
 refine hcon.mono ?_
 rintro e w' ⟨rfl, d', n, os, hp, hs, rfl⟩
 obtain ⟨hp1x, _, hp3⟩ := hp
 have hp1 : d'.size = L.length := hp1x.trans (by simp)
 refine ⟨rfl, d'.toList, ?_, ?_, ?_, ?_⟩
 · have e1 : d'.extract 0 L.length = d' := by rw [← hp1, Array.extract_size]
   have e2 : L.toArray.extract 0 L.length = L.toArray := by simp
   rw [e1, e2] at hp3
   exact hp3
 · rw [List.pairwise_iff_getElem]
   intro i j hi hj hij
   have h1 := hs i j (Nat.zero_le _) hij (by simpa [hp1] using hj)
   unfold Go.Proofs.ltOf at h1
   rw [decide_eq_false_iff_not] at h1
   rw [Array.length_toList] at hi hj
   rw [getElem!_pos d' i hi, getElem!_pos d' j hj] at h1
   rw [Array.getElem_toList, Array.getElem_toList]
   omega
 · have hH := Go.Proofs.holdsK_sortWorldK_c fcL 40 A g 0 L.toArray d' n os (FL.holds hQL) hblk (by rw [hp1]; simp)
   have hlen : d'.toList.length = L.length := by rw [Array.length_toList, hp1]
   rcases hQL.2 with ⟨e, _⟩ | ⟨g', cap, cur, e, hb, hh, hnc, hcm, hcs, ht⟩
   · cases e
   · simp only [Value.slice.injEq, Option.some.injEq, Addr.mk.injEq, and_true, true_and] at e
     obtain ⟨rfl, rfl⟩ := e
     have hnew : (Go.Proofs.sortWorldK fcL 40 A g 0 n d' os).heap[g]? = some (.cells (Go.Sort.putCells id 0 (Go.Sort.flatK fcL 40 d') cur) 72 (0, 0)) := by
      rw [sort_block A g n d' os g hblk, if_pos rfl, hh]
      rfl
     have hcs' : (Go.Sort.putCells id 0 (Go.Sort.flatK fcL 40 d') cur).size = c * 40 := by
      unfold Go.Sort.putCells
      rw [Array.size_mapIdx]
      exact hcs
     refine ⟨by rw [hlen, fcs_len, hlen], .inr ⟨g, c, _, by rw [hlen], hb, hnew, by rw [hlen]; exact hnc, hcm, hcs', ?_⟩⟩
     apply List.ext_getElem?
     intro j
     rw [List.getElem?_take]
     by_cases hj : j < d'.toList.length * 40
     · rw [if_pos hj]
       have h1 := (hH j (by rw [Go.Sort.size_flatK]; simpa using hj)).1
       have h2 := flat_get d'.toList j hj
       rw [Array.toArray_toList] at h2
       obtain ⟨u, hu⟩ := fcs_some d'.toList j hj
       rw [hu] at h2 ⊢
       rw [h2] at h1
       simp only [World.cell?, hnew, Nat.zero_add, id, Option.getD_some] at h1
       rw [Array.getElem?_toList]
       exact h1
     · rw [if_neg hj, List.getElem?_eq_none (by rw [fcs_len]; omega)]
 · refine ⟨rfl, rfl, rfl, Go.Proofs.size_sortWorldK_c fcL 40 A g 0 n d' os, fun k hk hS => ?_⟩
   rw [sort_block A g n d' os k hk, if_neg (fun e => hS (by rw [e]; rfl))]
end Go.Proofs.YtclpeepnngegaaaGreatDoor
namespace Go.Proofs.YtclpeepnngegaaaGreatDoor
open Go.RowKit Go.Maps
theorem wpList_make_fl {ops : Array Oper} {rest : List Oper} {o : Oper} {a : Act} {w : World} {Q : Exit → Act → World → Prop} (hg : o.guard = none) (l c : Operand) (ho : o.op = .makeSlice 34 l c) (base n : Nat) (hn : n ≤ 4096) (hl : a.eval l = .int .i64 0) (hc : a.eval c = .int .i64 (n : Int)) (hb : base ≤ w.heap.size)
 (h : ∀ w', FL w' base (.slice (some ⟨w.heap.size, 0, none⟩) 0 n) [] → Below w.heap.size w w' → wpList Tryz.prog ops Q rest (a.put o.dst (.slice (some ⟨w.heap.size, 0, none⟩) 0 n)) w') : wpList Tryz.prog ops Q (o :: rest) a w := by
 obtain ⟨i1, z1, gi, gz0, gz1, gz2, gz3⟩ := Tryz.infoF
 refine wpList_make_own w hg l c 34 ho base 72 i1 z1 40 Tryz.underlying34 gi gz0 gz1 .i64 .i64 (n : Int) n hl hc rfl (Nat.le_trans (Nat.mul_le_mul gz3 hn) (by decide)) (by unfold maxLen; omega) hb ?_
 intro w' h1 h2
 exact h w' h1 ⟨h2.os, h2.tape, h2.output, h2.size, fun k hk => h2.block k hk (by simp)⟩
theorem wpList_lenN {ops : Array Oper} {rest : List Oper} {o : Oper} {a : Act} {w : World} {Q : Exit → Act → World → Prop} (m : Operand) (hg : o.guard = none) (ho : o.op = .call { callee := .builtin .len, args := #[m], argTypes := #[67] }) (M n : Nat) (hm : a.eval m = .map (some M)) (hT : ∀ ty, (Builtin.len_ #[67] ty #[.map (some M)]).run Tryz.prog w = .ok (.int .i64 (n : Nat)) w)
 (h : wpList Tryz.prog ops Q rest (a.put o.dst (.int .i64 (n : Nat))) w) : wpList Tryz.prog ops Q (o :: rest) a w := by
 refine wpList_plain hg fun K' hK' => ?_
 unfold Oper.wp
 simp [execOp, ho, resolve, invoke, builtin, hm, hT o.type, Result.andThen]
 exact hK' _ _ h
def DumpR (E : List FV) (S : List FN) : Prop := S.Perm (E.map FV.n) ∧ S.Pairwise (fun a b => 0 ≤ ordV b a)
set_option maxHeartbeats 3200000 in
set_option maxRecDepth 100000 in
theorem dump_any (t M N : Nat) (c : CF) (E : List FV) (w : World) (h : TA w t M N c E) (hl : E.length ≤ 4096) : Calls Tryz.prog 19 #[.pointer (some ⟨t, 0, none⟩)] w fun r w' => ∃ v S, r = .returned v ∧ DumpR E S ∧ FL w' w.heap.size v S ∧ (∃ g cc, v = .slice (some ⟨g, 0, none⟩) S.length cc) ∧ Below w.heap.size w w' := by
 obtain ⟨D, hD⟩ := h.ma
 obtain ⟨n, hn⟩ : ∃ n, n = E.length := ⟨_, rfl⟩
 have HN : Hid (n = E.length ∧ n ≤ 4096) := ⟨hn, by omega⟩
 have HC : Hid (TA w t M N c E ∧ MA w M D (E.map FV.kp) ∧ Dj E) := ⟨h, hD, h.dj⟩
 have cm := TblAt.mp h.cb
 have HMO : Hid (w.ownsMap Tryz.prog 38 anyE M n D) := by have := hD.mo; rw [List.length_map, ← hn] at this; exact this
 have HLM : Hid (∀ ty, (Builtin.len_ #[67] ty #[.map (some M)]).run Tryz.prog w = .ok (.int .i64 (n : Nat)) w) := fun ty => by have := h.lenM ty; rw [← hn] at this; exact this
 clear h hD hl hn
 go_enter Tryz.func19, Tryz.ntmps19
 go_wp2_with (first | (refine wpList_lenN (.tmp 9) rfl rfl M n rfl HLM.out ?_) | (refine wpList_make_fl rfl (.const (.int .i64 0)) (.tmp 10) rfl w.heap.size n HN.out.2 rfl rfl (Nat.le_refl _) ?_))
 intro w1 hF1 b1
 obtain ⟨g1, hg1⟩ : ∃ g, g = w.heap.size := ⟨_, rfl⟩
 rw [← hg1] at hF1 ⊢
 have H1 : Hid (FL w1 w.heap.size (.slice (some ⟨g1, 0, none⟩) 0 n) [] ∧ Below w.heap.size w w1 ∧ MA w1 M D (E.map FV.kp) ∧ TA w1 t M N c E ∧ w1.ownsMap Tryz.prog 38 anyE M n D) := by
  refine ⟨by rw [← hg1]; exact hF1, b1, HC.out.2.1.below b1, HC.out.1.below b1, ?_⟩
  have h2 := (HC.out.2.1.below b1).mo
  rw [List.length_map, ← HN.out.1] at h2
  exact h2
 have cm1 := TblAt.mp H1.out.2.2.2.1.cb
 clear hF1 b1 hg1 cm HMO HLM
 go_wp2_with (first | (refine wpList_range_own _ rfl (.tmp 15) 67 rfl 38 77 lawR Tryz.underlying67 anyE M n D rfl H1.out.2.2.2.2 ?_))
 intro w2 hrg2 hg2 hs2
 have b2 : Below w1.heap.size w1 w2 := ⟨hg2.os, hg2.tape, hg2.output, hg2.size, fun k hk => hg2.block k hk (by simp)⟩
 obtain ⟨r, hr⟩ : ∃ r, r = w1.heap.size := ⟨_, rfl⟩
 rw [← hr] at hrg2 ⊢
 have HRW : Hid (w.heap.size ≤ r) := by have := H1.out.2.1.size; show w.heap.size ≤ r; omega
 have HR0 : Hid (w2.ranges Tryz.prog 38 anyE M r n D (Maps.has D) (Maps.size D) ∧ RL E [] (Maps.has D) ∧ TA w2 t M N c E ∧ FL w2 w.heap.size (.slice (some ⟨g1, 0, none⟩) 0 n) [] ∧ Below w.heap.size w w2) := ⟨hrg2, RL.start HC.out.2.1, H1.out.2.2.2.1.below b2, H1.out.1.below b2, bthen H1.out.2.1 b2⟩
 clear hrg2 hg2 hs2 b2 hr cm1 H1
 go_wp2_with fail
 go_loopw [3, 5] (fun l _ wr => ∃ (v : Value) (L : List FV) (left : Lit → Bool) (cnt : Nat), Hid (v = l) ∧ Hid (wr.ranges Tryz.prog 38 anyE M r n D left cnt ∧ RL E L left ∧ TA wr t M N c E ∧ FL wr w.heap.size v (L.map FV.n) ∧ Below w.heap.size w wr ∧ ∃ g cc, v = .slice (some ⟨g, 0, none⟩) L.length cc)) (fun _ _ wr => wr.rangeLeft M r)
 case atStart => exact ⟨_, [], _, _, rfl, HR0.out.1, HR0.out.2.1, HR0.out.2.2.1, HR0.out.2.2.2.1, HR0.out.2.2.2.2, g1, n, rfl⟩
 case round =>
  obtain ⟨v, L, left, cnt, HEQ, HR⟩ := hrel
  obtain rfl := HEQ.out
  clear HEQ HR0
  go_wp2_with (first | (refine wpList_next_ranges (α := Value) (β := Value) _ rfl (.tmp 16) rfl 38 lawR anyE id id (fun k _ _ => ⟨k, rfl⟩) (fun v _ _ => ⟨v, rfl⟩) M r n D left cnt rfl HR.out.1 ?_ ?_))
  · intro hc0 hl0
    obtain ⟨hall, hperm⟩ := HR.out.2.1.done HC.out.2.2 HC.out.1.wf hl0
    have HP : Hid (L.Perm E) := hperm
    obtain ⟨g, cc, hv⟩ := HR.out.2.2.2.2.2
    have QS : Hid _ := sorts wr w.heap.size v (L.map FV.n) HR.out.2.2.2.1 ⟨g, cc, by rw [List.length_map]; exact hv⟩ (by rw [List.length_map, hperm.length_eq]; have := HN.out; omega)
    have HV : Hid (v = .slice (some ⟨g, 0, none⟩) L.length cc) := hv
    clear hc0 hl0 hall hperm hv
    go_wp2_with fail
    refine Calls.mono QS.out ?_
    rintro e3 w3 ⟨rfl, S, hp, hso, hF3, k3⟩
    have H3 : Hid (DumpR E S ∧ FL w3 w.heap.size v S ∧ (∃ g cc, v = .slice (some ⟨g, 0, none⟩) S.length cc) ∧ Below w.heap.size w w3) := by
     refine ⟨⟨hp.trans (HP.out.map FV.n), hso⟩, hF3, ⟨g, cc, ?_⟩, ?_⟩
     · rw [hp.length_eq, List.length_map]
       exact HV.out
     · have hcl := HR.out.2.2.2.1.cells
       exact HR.out.2.2.2.2.1.trans (k3.below (fun q hq => (hcl q hq).1) HR.out.2.2.2.2.1.size)
    clear hp hso hF3 k3 QS
    go_wp2_with fail
    go_ret
    exact ⟨v, S, rfl, H3.out⟩
  · intro key cv kl yd yp w3 cnt3 hkey hleft hR hat hrg3 hlt3 hg3 hs3 hen
    obtain ⟨s, hsE, hk, hnL⟩ := HR.out.2.1.lft kl hleft
    have hcv : cv = .pointer (some ⟨s.P, 0, none⟩) := by
     have h1 := (HC.out.2.1.hs s.n.x kl hk).2
     rw [ptr_pt, fF_mem HC.out.2.2 hsE (eqP_refl _), hat] at h1
     have hy : (yd, yp) = ((.held cv, []) : DataW Value × List MemPlace) := by
      have : some ((DataW.held (id cv) : DataW Value), ([] : List MemPlace)) = some (yd, yp) := hR
      exact (Option.some.inj this).symm
     have hy1 : yd = .held cv := congrArg Prod.fst hy
     rw [hy1] at h1
     have h2 : (DataW.held cv : DataW Value) = .held (ptF (some s)) := h1
     simpa [ptF] using h2
    have hkv : key = .agg (tuC s.n.x) := lawR.inj hkey hk
    subst hcv hkv
    have k3 : Ch (fun q => q = r) wr w3 := (Ch.ofGrown hg3).mono (fun q _ hq => by have e : some r = some q := hq; simp at e; exact e.symm)
    have b3 : Below w.heap.size w w3 := HR.out.2.2.2.2.1.trans (k3.below (fun q hq => by have h' : q = r := hq; have := HRW.out; omega) HR.out.2.2.2.2.1.size)
    have hF3 : FL w3 w.heap.size v (L.map FV.n) := HR.out.2.2.2.1.ch k3 (fun g hg e => by
     have e' : g = r := e
     obtain ⟨_, _, _, _, hit⟩ := ranges_it HR.out.1
     obtain ⟨_, _, cc, hcc⟩ := HR.out.2.2.2.1.cells g hg
     rw [e'] at hcc
     rw [hcc] at hit
     cases hit)
    have HX : Hid (w3.ranges Tryz.prog 38 anyE M r n D (fun z => left z && !z.sameKey kl) cnt3 ∧ RL E (L ++ [s]) (fun z => left z && !z.sameKey kl) ∧ TA w3 t M N c E ∧ FL w3 w.heap.size v (L.map FV.n) ∧ Below w.heap.size w w3 ∧ cnt3 < cnt ∧ (L.map FV.n).length ≤ 100000 ∧ FloAt w3 s.P s.n) := by
     have h1 := HR.out.2.1.next (left' := fun z => left z && !z.sameKey kl) HC.out.2.2 hsE hk hnL (fun z => by simp)
     have hT : TA w3 t M N c E := HC.out.1.below b3
     have h2 := len_sub HR.out.2.1.dj HR.out.2.1.sub
     have h3 := HN.out
     exact ⟨hrg3, h1, hT, hF3, b3, hlt3, by rw [List.length_map]; omega, hT.en s hsE⟩
    have HSE : Hid (s ∈ E) := hsE
    clear hkey hleft hR hat hrg3 hlt3 hg3 hs3 hsE hnL hk k3 b3 hF3
    obtain ⟨Z, hZ⟩ : ∃ Z, Z = w3.alloc (.cells (flC s.n) 72) := ⟨_, rfl⟩
    have bZ : Below w3.heap.size w3 Z := by rw [hZ]; exact (Below.refl _ _).alloc (Nat.le_refl _) _
    obtain ⟨O, hO⟩ : ∃ O, O = w3.heap.size := ⟨_, rfl⟩
    have HZ : Hid (Z.ranges Tryz.prog 38 anyE M r n D (fun z => left z && !z.sameKey kl) cnt3 ∧ TA Z t M N c E ∧ FL Z w.heap.size v (L.map FV.n) ∧ Below w.heap.size w Z ∧ FloAt Z O s.n ∧ w3.alloc (.cells (flC s.n) 72) = Z ∧ w3.heap.size = O) := ⟨ranges_ch (S := fun _ => False) HX.out.1 (Ch.ofBelow bZ) id id, HX.out.2.2.1.below bZ, HX.out.2.2.2.1.below bZ, bthen HX.out.2.2.2.2.1 bZ, by rw [hZ, hO]; exact flo_new w3 s.n, hZ.symm, hO.symm⟩
    clear hZ bZ hO
    (try simp only [id] at hen ⊢)
    go_wp2_with (first | (refine wpList_load_flo (.tmp 23) rfl s.P s.n rfl HX.out.2.2.2.2.2.2.2 rfl ?_) | (refine wpList_bs1f (.tmp 24) rfl s.n rfl rfl ?_; rw [HZ.out.2.2.2.2.2.1, HZ.out.2.2.2.2.2.2]) | (refine wpList_app1f rfl (.tmp 21) (.tmp 25) rfl w.heap.size v (L.map FV.n) rfl HZ.out.2.2.1 O s.n rfl HZ.out.2.2.2.2.1 HX.out.2.2.2.2.2.2.1 HZ.out.2.2.2.1.size ?_))
    intro v' w6 hl6 hg6 hv6
    have H6 : Hid (w6.ranges Tryz.prog 38 anyE M r n D (fun z => left z && !z.sameKey kl) cnt3 ∧ TA w6 t M N c E ∧ FL w6 w.heap.size v' ((L ++ [s]).map FV.n) ∧ Below w.heap.size w w6 ∧ ∃ g cc, v' = .slice (some ⟨g, 0, none⟩) (L ++ [s]).length cc) := by
     have k6 := Ch.ofGrown hg6
     have hcl := HZ.out.2.2.1.cells
     have b6 : Below w.heap.size w w6 := HZ.out.2.2.2.1.trans (k6.below (fun q e => (hcl q e).1) HZ.out.2.2.2.1.size)
     refine ⟨ranges_ch HZ.out.1 k6 (fun e => ?_) (fun e => ?_), HC.out.1.below b6, by rw [List.map_append]; exact hl6, b6, ?_⟩
     · obtain ⟨h1, _, cc, hcc⟩ := hcl M e
       have := HC.out.1.tlt M (.inr (.inl rfl))
       omega
     · obtain ⟨_, _, cc, hcc⟩ := hcl r e
       obtain ⟨_, _, _, _, hit⟩ := ranges_it HZ.out.1
       rw [hcc] at hit
       cases hit
     · rcases hl6.2 with ⟨e1, e2⟩ | ⟨g6, cap6, cur6, e1, _⟩
       · rw [List.length_append] at e2; simp at e2
       · refine ⟨g6, cap6, ?_⟩
         rw [e1]
         simp
    clear hl6 hg6 hv6
    go_wp2_with fail
    go_roundw
    case rel => exact ⟨v', L ++ [s], _, _, rfl, H6.out.1, HX.out.2.1, H6.out.2.1, H6.out.2.2.1, H6.out.2.2.2.1, H6.out.2.2.2.2⟩
    case measure => rw [H6.out.1.left_eq, HR.out.1.left_eq]; exact HX.out.2.2.2.2.2.1
end Go.Proofs.YtclpeepnngegaaaGreatDoor
