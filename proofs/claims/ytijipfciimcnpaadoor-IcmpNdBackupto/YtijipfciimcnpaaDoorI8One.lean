/-
  Addresses, link addresses and neighbours' messages as values: made, loaded and stored, each in one step (from I8Start); a link address in memory.
-/
import Derived.Test.YtijipfciimcnpaaDoorI8Nd1
import Derived.Test.YtijipfciimcnpaaDoorI8Cur
import Derived.Test.YtijipfciimcnpaaDoorI8Addr2
import Derived.Laws.CopyOwn
namespace Go.Proofs.YtijipfciimcnpaaDoor.MixH
open Go.Proofs.YtijipfciimcnpaaDoor.Mix
/-- one of two may come up -/
theorem pair {P : Program} {l : List Oper} {Q : Exit → Act → World → Prop} {S : World → Prop} {F : Nat} {listed : Array Bool} {a : Act} {w : World} (fs1 fs2 : List Bool) (fuel : Nat) (i j : Nat) (o1 o2 : Oper) (ho1 : pick fs1 l = [o1]) (ho2 : pick fs2 l = [o2]) (hi : l[i]? = some o1) (hj : l[j]? = some o2) (hr : Region.ready .any l.toArray listed = [i, j]) (hF : F = fuel + 1)
    (h1 : ∀ K : Act → World → Prop, (∀ a' w', S w' → wpAnyH P .any l.toArray (only Q) S fuel (listed.setIfInBounds i true) a' w' → K a' w') → wpList P l.toArray (only fun _ => K) (pick fs1 l) a w)
    (h2 : ∀ K : Act → World → Prop, (∀ a' w', S w' → wpAnyH P .any l.toArray (only Q) S fuel (listed.setIfInBounds j true) a' w' → K a' w') → wpList P l.toArray (only fun _ => K) (pick fs2 l) a w) : wpAnyH P .any l.toArray (only Q) S F listed a w := by
  subst hF
  refine wpAnyH_all hr (by simp) fun m hm => ?_
  simp only [List.mem_cons, List.not_mem_nil, or_false] at hm
  rcases hm with rfl | rfl
  · have h0 := h1 _ (fun _ _ hs h => (⟨hs, h⟩ : _ ∧ _))
    rw [ho1] at h0
    have hi' : l.toArray[m]? = some o1 := by simpa using hi
    unfold wpOp
    simp only [hi']
    unfold wpList at h0
    split
    · rename_i hw
      rw [if_pos hw] at h0
      rcases h0 with h0 | ⟨_, h0⟩
      · exact .inl (wp_only (fun a w h => h.2) h0)
      · exact absurd h0 (no_out _)
    · rename_i hw
      rw [if_neg hw] at h0
      exact h0.2
  · have h0 := h2 _ (fun _ _ hs h => (⟨hs, h⟩ : _ ∧ _))
    rw [ho2] at h0
    have hi' : l.toArray[m]? = some o2 := by simpa using hj
    unfold wpOp
    simp only [hi']
    unfold wpList at h0
    split
    · rename_i hw
      rw [if_pos hw] at h0
      rcases h0 with h0 | ⟨_, h0⟩
      · exact .inl (wp_only (fun a w h => h.2) h0)
      · exact absurd h0 (no_out _)
    · rename_i hw
      rw [if_neg hw] at h0
      exact h0.2
end Go.Proofs.YtijipfciimcnpaaDoor.MixH
namespace Go.Proofs.YtijipfciimcnpaaDoor
open Go.RowKit
open I8 (M8)

theorem wpList_load_nd {ops : Array Oper} {rest : List Oper} {o : Oper} {a : Act} {w : World} {Q : Exit → Act → World → Prop} (x : Operand) (ho : o.op = .load 28 x) (O : Nat) (C : Array Value) (hC : C.size = 28) (hx : a.eval x = .pointer (some ⟨O, 0, none⟩)) (hb : NdAt w O C)
    (hw : Region.wanted o (yielded ops a.tmps) = true) (hh : wpList Tryd.prog ops Q rest (a.put o.dst (.agg C)) w) : wpList Tryd.prog ops Q (o :: rest) a w := by
  refine wpList_step fun K hK => ?_
  rw [if_pos hw]
  exact wp_load_row 28 x ho O hx _ _ _ _ hb Tryd.underlying28 rfl (by rw [hC]; exact Tryd.sizeNd) (hK _ _ hh)
theorem Tryd.sizeIPz : (Tryd.prog.info? 24).map (·.size) = some 17 := by kernel_rfl
def IpRow (w : World) (O : Nat) (C : Array Value) : Prop := w.heap[O]? = some (.cells C 24 (0, 0))
theorem ipRow_boxed {w : World} {O : Nat} {V : Int} {x : Nat → Nat} (h : IpRow w O (ipCells V x)) : Boxed w O V x := by
  have hc : ∀ i, w.cell? ⟨O, i, none⟩ = (ipCells V x)[i]? := fun i => by unfold IpRow at h; simp [World.cell?, h]
  refine ⟨hc 0, fun i hi => ?_⟩
  rw [hc, ipCells_eq]
  simp [Nat.add_comm 1 i, hi]
theorem built_ip0 : Tryd.prog.built 24 [] = some (ipCells 0 (fun _ => 0)) := by kernel_rfl
theorem built_ip6 : Tryd.prog.built 24 [(0, .int .i64 6)] = some (ipCells 6 (fun _ => 0)) := by kernel_rfl
theorem wpList_ip0_built {ops : Array Oper} {rest : List Oper} {o : Oper} {a : Act} {w : World} {Q : Exit → Act → World → Prop} (ho : o.op = .build 24 #[]) (hw : Region.wanted o (yielded ops a.tmps) = true)
    (h : wpList Tryd.prog ops Q rest (a.put o.dst (.agg (ipCells 0 (fun _ => 0)))) w) : wpList Tryd.prog ops Q (o :: rest) a w := by
  refine wpList_step fun K hK => ?_
  rw [if_pos hw]
  unfold Oper.wp execOp
  have := run_build (P := Tryd.prog) w 24 #[] _ built_ip0
  simp only [ho, Sem.run_bind, List.map_toArray, List.map_nil, this, Result.andThen_ok]
  exact hK _ _ h
theorem wpList_ip6_built {ops : Array Oper} {rest : List Oper} {o : Oper} {a : Act} {w : World} {Q : Exit → Act → World → Prop} (ho : o.op = .build 24 #[(0, .const (.int .i64 6))]) (hw : Region.wanted o (yielded ops a.tmps) = true)
    (h : wpList Tryd.prog ops Q rest (a.put o.dst (.agg (ipCells 6 (fun _ => 0)))) w) : wpList Tryd.prog ops Q (o :: rest) a w := by
  refine wpList_step fun K hK => ?_
  rw [if_pos hw]
  unfold Oper.wp execOp
  have := run_build (P := Tryd.prog) w 24 #[(0, .int .i64 6)] _ built_ip6
  simp only [ho, Sem.run_bind, List.map_toArray, List.map_cons, List.map_nil, Act.eval, this, Result.andThen_ok]
  exact hK _ _ h
def ndZ : Array Value := ndC 0 0 (fun _ => 0) false false false false (fun _ => 0)
theorem ndZ_size : ndZ.size = 28 := by kernel_rfl
theorem wpList_alloc_ip {ops : Array Oper} {rest : List Oper} {o : Oper} {a : Act} {w : World} {Q : Exit → Act → World → Prop} (ho : o.op = .alloc 24) (hw : Region.wanted o (yielded ops a.tmps) = true)
    (h : wpList Tryd.prog ops Q rest (a.put o.dst (.pointer (some ⟨w.heap.size, 0, none⟩))) (w.alloc (.cells (ipCells 0 (fun _ => 0)) 24))) : wpList Tryd.prog ops Q (o :: rest) a w := by
  refine wpList_step fun K hK => ?_
  rw [if_pos hw]
  have hrun : (execOp a.eval o).run Tryd.prog w = .ok (.value (.pointer (some ⟨w.heap.size, 0, none⟩))) (w.alloc (.cells (ipCells 0 (fun _ => 0)) 24)) := by
    obtain ⟨dst, op, type, pos, after, guard⟩ := o
    simp only at ho
    subst ho
    simp only [execOp]
    go_simp
    rfl
  unfold Oper.wp
  rw [hrun]
  exact hK _ _ h
set_option maxRecDepth 100000 in
theorem wpList_alloc_nd {ops : Array Oper} {rest : List Oper} {o : Oper} {a : Act} {w : World} {Q : Exit → Act → World → Prop} (ho : o.op = .alloc 28) (hw : Region.wanted o (yielded ops a.tmps) = true)
    (h : wpList Tryd.prog ops Q rest (a.put o.dst (.pointer (some ⟨w.heap.size, 0, none⟩))) (w.alloc (.cells ndZ 28))) : wpList Tryd.prog ops Q (o :: rest) a w := by
  refine wpList_step fun K hK => ?_
  rw [if_pos hw]
  have hrun : (execOp a.eval o).run Tryd.prog w = .ok (.value (.pointer (some ⟨w.heap.size, 0, none⟩))) (w.alloc (.cells ndZ 28)) := by
    obtain ⟨dst, op, type, pos, after, guard⟩ := o
    simp only at ho
    subst ho
    simp only [execOp]
    go_simp
    rfl
  unfold Oper.wp
  rw [hrun]
  exact hK _ _ h
theorem wpList_store_ip {ops : Array Oper} {rest : List Oper} {o : Oper} {a : Act} {w : World} {Q : Exit → Act → World → Prop} (x y : Operand) (ho : o.op = .store 24 x y) (hd : o.dst = none) (O : Nat) (V U : Int) (f g : Nat → Nat) (hx : a.eval x = .pointer (some ⟨O, 0, none⟩)) (hy : a.eval y = .agg (ipCells U g)) (hb : IpRow w O (ipCells V f))
    (hw : Region.wanted o (yielded ops a.tmps) = true) (hh : ∀ w', IpRow w' O (ipCells U g) → Ch (fun q => q = O) w w' → wpList Tryd.prog ops Q rest a w') : wpList Tryd.prog ops Q (o :: rest) a w := by
  refine wpList_step fun K hK => ?_
  rw [if_pos hw]
  refine wp_store_row 24 x y ho O (ipCells U g) hx hy _ (ipCells V f) hb Tryd.sizeIPz rfl (by simp [ipCells, Value.oneCell']) (hK _ _ ?_)
  rw [hd]
  refine hh _ (setRow_heap w O _ _ _ _ hb) ⟨rfl, rfl, rfl, ?_, ?_⟩
  · simp [World.setRow]
  · intro k hk hne
    simp only [World.setRow]
    rw [Array.getElem?_modify, if_neg (fun e => hne e.symm)]
theorem wpList_store_nd {ops : Array Oper} {rest : List Oper} {o : Oper} {a : Act} {w : World} {Q : Exit → Act → World → Prop} (x y : Operand) (ho : o.op = .store 28 x y) (hd : o.dst = none) (O : Nat) (C D : Array Value) (hC : C.size = 28) (hD : D.size = 28) (h1 : D.all (·.oneCell') = true) (hx : a.eval x = .pointer (some ⟨O, 0, none⟩)) (hy : a.eval y = .agg D) (hb : NdAt w O C)
    (hw : Region.wanted o (yielded ops a.tmps) = true) (hh : ∀ w', NdAt w' O D → Ch (fun q => q = O) w w' → wpList Tryd.prog ops Q rest a w') : wpList Tryd.prog ops Q (o :: rest) a w := by
  refine wpList_step fun K hK => ?_
  rw [if_pos hw]
  refine wp_store_row 28 x y ho O D hx hy _ C hb (by rw [hD]; exact Tryd.sizeNd) (by rw [hC, hD]) h1 (hK _ _ ?_)
  rw [hd]
  refine hh _ (setRow_heap w O _ _ _ _ hb) ⟨rfl, rfl, rfl, ?_, ?_⟩
  · simp [World.setRow]
  · intro k hk hne
    simp only [World.setRow]
    rw [Array.getElem?_modify, if_neg (fun e => hne e.symm)]
theorem wpList_copy_ch {P : Program} {w : World} {ops : Array Oper} {rest : List Oper} {o : Oper} {a : Act} {Q : Exit → Act → World → Prop} (hgd : o.guard = none) (d s : Operand) (dT sT : TypeId)
    (ho : o.op = .call { callee := .builtin .copy, args := #[d, s], argTypes := #[dT, sT] }) (elem : TypeId) (hu : P.underlying dT = some (.slice elem)) (hsz : (P.info? elem).map (·.size) = some 1)
    (dp sp : Option Addr) (dLen dCap sLen sCap : Nat) (hd : a.eval d = .slice dp dLen dCap) (hs : a.eval s = .slice sp sLen sCap)
    (g off : Nat) (cur : List Value) (t : TypeId) (hg : w.heap[g]? = some (.cells cur.toArray t (0, 0))) (cs : List Value) (hn : cs.length = Nat.min sLen dLen)
    (hpos : 0 < cs.length → dp = some ⟨g, off, none⟩ ∧ ∃ ad, sp = some ad ∧ ∀ j v, cs[j]? = some v → w.cell? (ad.add j) = some v)
    (hfit : off + cs.length ≤ cur.length) (h1 : ∀ v ∈ cs, v.oneCell' = true)
    (h : ∀ w', Hid (w'.heap[g]? = some (.cells (splice cur off cs).toArray t (0, 0))) → Ch (fun q => q = g) w w' → wpList P ops Q rest (a.put o.dst (goInt cs.length)) w') :
    wpList P ops Q (o :: rest) a w := by
  by_cases h0 : cs.length = 0
  · obtain rfl : cs = [] := List.eq_nil_of_length_eq_zero h0
    refine wpList_copy_nothing hgd d s dT sT ho elem hu hsz dp sp dLen dCap sLen sCap hd hs (by simpa using hn.symm) ?_
    exact h w (show _ = _ by simpa [splice] using hg) (Ch.refl _ _)
  · obtain ⟨rfl, ad, rfl, hsrc⟩ := hpos (by omega)
    refine wpList_copy_own hgd d s dT sT ho elem hu hsz g off dLen dCap ad sLen sCap hd hs cur.toArray t hg cs hn hsrc (by simpa using hfit) h1 ?_
    exact h _ (show _ = _ by simpa [splice] using setRow_heap w g _ _ t _ hg) ⟨rfl, rfl, rfl, by simp [World.setRow], fun k _ hk => setRow_other w g k _ hk⟩
theorem seg_cells {w : World} {a : Option Addr} {l : List Nat} (h : Seg .u8 w a (toI l)) (h0 : 0 < ((toI l).map (Value.int .u8)).length) : ∃ ad, a = some ad ∧ ∀ j v, ((toI l).map (Value.int .u8))[j]? = some v → w.cell? (ad.add j) = some v := by
  rcases h with hnil | ⟨b, off, rfl, hc⟩
  · rw [hnil] at h0; simp at h0
  · refine ⟨_, rfl, fun j v hj => ?_⟩
    have hj' : j < (toI l).length := by simpa using (List.getElem?_eq_some_iff.1 hj).1
    rw [Addr.add_lit, hc j hj']
    simp [List.getElem?_eq_getElem hj'] at hj
    rw [← hj]
    simp [List.getD, hj']
theorem built_mac0 : Tryd.prog.built 26 [] = some (macC (fun _ => 0)) := by kernel_rfl
def McAt (w : World) (O : Nat) (x : Nat → Nat) : Prop := w.heap[O]? = some (.cells (macC x) 26 (0, 0))
theorem McAt.lt {w : World} {O : Nat} {x : Nat → Nat} (k : McAt w O x) : O < w.heap.size := (Array.getElem?_eq_some_iff.1 k).1
theorem McAt.below {w w' : World} {O : Nat} {x : Nat → Nat} (k : McAt w O x) (h : Below w.heap.size w w') : McAt w' O x := (h.block O k.lt).trans k
theorem McAt.ch {S : Nat → Prop} {w w' : World} {O : Nat} {x : Nat → Nat} (k : McAt w O x) (h : Ch S w w') (hS : ¬ S O) : McAt w' O x := (h.block O k.lt hS).trans k
theorem mcAt_new (w : World) (x : Nat → Nat) : McAt (w.alloc (.cells (macC x) 26)) w.heap.size x := heap_alloc_new _ _
theorem wpList_mac0_built {ops : Array Oper} {rest : List Oper} {o : Oper} {a : Act} {w : World} {Q : Exit → Act → World → Prop} (ho : o.op = .build 26 #[]) (hw : Region.wanted o (yielded ops a.tmps) = true)
    (h : wpList Tryd.prog ops Q rest (a.put o.dst (.agg (macC (fun _ => 0)))) w) : wpList Tryd.prog ops Q (o :: rest) a w := by
  refine wpList_step fun K hK => ?_
  rw [if_pos hw]
  unfold Oper.wp execOp
  have := run_build (P := Tryd.prog) w 26 #[] _ built_mac0
  simp only [ho, Sem.run_bind, List.map_toArray, List.map_nil, this, Result.andThen_ok]
  exact hK _ _ h
theorem wpList_alloc_mac {ops : Array Oper} {rest : List Oper} {o : Oper} {a : Act} {w : World} {Q : Exit → Act → World → Prop} (ho : o.op = .alloc 26) (hw : Region.wanted o (yielded ops a.tmps) = true)
    (h : wpList Tryd.prog ops Q rest (a.put o.dst (.pointer (some ⟨w.heap.size, 0, none⟩))) (w.alloc (.cells (macC (fun _ => 0)) 26))) : wpList Tryd.prog ops Q (o :: rest) a w := by
  refine wpList_step fun K hK => ?_
  rw [if_pos hw]
  have hrun : (execOp a.eval o).run Tryd.prog w = .ok (.value (.pointer (some ⟨w.heap.size, 0, none⟩))) (w.alloc (.cells (macC (fun _ => 0)) 26)) := by
    obtain ⟨dst, op, type, pos, after, guard⟩ := o
    simp only at ho
    subst ho
    simp only [execOp]
    go_simp
    rfl
  unfold Oper.wp
  rw [hrun]
  exact hK _ _ h
theorem wpList_load_mc {ops : Array Oper} {rest : List Oper} {o : Oper} {a : Act} {w : World} {Q : Exit → Act → World → Prop} (x : Operand) (ho : o.op = .load 26 x) (O : Nat) (y : Nat → Nat) (hx : a.eval x = .pointer (some ⟨O, 0, none⟩)) (hb : McAt w O y)
    (hw : Region.wanted o (yielded ops a.tmps) = true) (hh : wpList Tryd.prog ops Q rest (a.put o.dst (.agg (macC y))) w) : wpList Tryd.prog ops Q (o :: rest) a w := by
  refine wpList_step fun K hK => ?_
  rw [if_pos hw]
  exact wp_load_row 26 x ho O hx _ _ _ _ hb Tryd.underlying26 rfl Tryd.sizeMac (hK _ _ hh)
theorem wpList_store_mc {ops : Array Oper} {rest : List Oper} {o : Oper} {a : Act} {w : World} {Q : Exit → Act → World → Prop} (x y : Operand) (ho : o.op = .store 26 x y) (hd : o.dst = none) (O : Nat) (f g : Nat → Nat) (hx : a.eval x = .pointer (some ⟨O, 0, none⟩)) (hy : a.eval y = .agg (macC g)) (hb : McAt w O f)
    (hw : Region.wanted o (yielded ops a.tmps) = true) (hh : ∀ w', McAt w' O g → Ch (fun q => q = O) w w' → wpList Tryd.prog ops Q rest a w') : wpList Tryd.prog ops Q (o :: rest) a w := by
  refine wpList_step fun K hK => ?_
  rw [if_pos hw]
  refine wp_store_row 26 x y ho O (macC g) hx hy _ (macC f) hb Tryd.sizeMac rfl (by simp [macC, Value.oneCell']) (hK _ _ ?_)
  rw [hd]
  refine hh _ (setRow_heap w O _ _ _ _ hb) ⟨rfl, rfl, rfl, ?_, ?_⟩
  · simp [World.setRow]
  · intro k hk hne
    simp only [World.setRow]
    rw [Array.getElem?_modify, if_neg (fun e => hne e.symm)]
theorem results_ip_tmp {fn : Func} {p u : Tmp} (h : fn.results = #[.cell p 24, .tmp u]) (tmps : Array Value) (w : World) (O : Nat) (V : Int) (x : Nat → Nat) (hp : tmps.getD p undef = .pointer (some ⟨O, 0, none⟩)) (hb : IpRow w O (ipCells V x)) :
    (results fn tmps).run Tryd.prog w = .ok (.tuple #[.agg (ipCells V x), tmps.getD u undef]) w := by
  rw [results_cell_tmp h tmps Tryd.prog w, hp]
  simp [asAddr, run_loadVar_row w O _ 24 (ipCells V x) _ _ hb Tryd.underlying24 rfl Tryd.sizeIPz, Result.andThen]
theorem results_nd_tmp {fn : Func} {p u : Tmp} (h : fn.results = #[.cell p 28, .tmp u]) (tmps : Array Value) (w : World) (O : Nat) (C : Array Value) (hC : C.size = 28) (hp : tmps.getD p undef = .pointer (some ⟨O, 0, none⟩)) (hb : NdAt w O C) :
    (results fn tmps).run Tryd.prog w = .ok (.tuple #[.agg C, tmps.getD u undef]) w := by
  rw [results_cell_tmp h tmps Tryd.prog w, hp]
  simp [asAddr, run_loadVar_row w O _ 28 C _ _ hb Tryd.underlying28 rfl (by rw [hC]; exact Tryd.sizeNd), Result.andThen]
theorem IpRow.lt {w : World} {O : Nat} {C : Array Value} (k : IpRow w O C) : O < w.heap.size := (Array.getElem?_eq_some_iff.1 k).1
theorem IpRow.below {w w' : World} {O : Nat} {C : Array Value} (k : IpRow w O C) (h : Below w.heap.size w w') : IpRow w' O C := (h.block O k.lt).trans k
theorem IpRow.ch {S : Nat → Prop} {w w' : World} {O : Nat} {C : Array Value} (k : IpRow w O C) (h : Ch S w w') (hS : ¬ S O) : IpRow w' O C := (h.block O k.lt hS).trans k
theorem grown_ch {w w' : World} {B : Nat} (h : w.grownBy w' (some B)) : Ch (fun q => q = B) w w' := ⟨h.os, h.tape, h.output, h.size, fun k hk hne => h.block k hk (fun e => hne (Option.some.inj e))⟩
theorem Cur.ch {S : Nat → Prop} {w w' : World} {B : Nat} {a : Option Addr} {len p : Nat} (h : Cur w B a len p) (k : Ch S w w') (hS : ¬ S B) : Cur w' B a len p :=
  ⟨k.cell h.c0 hS, k.cell h.c1 hS, fun j => by rw [World.frozen?_of_block (k.block B h.lt hS)]; exact h.fz j, Nat.lt_of_lt_of_le h.lt k.size⟩
theorem below_ch {S : Nat → Prop} {w w' : World} (h : Below w.heap.size w w') : Ch S w w' := ⟨h.os, h.tape, h.output, h.size, fun k hk _ => h.block k hk⟩
end Go.Proofs.YtijipfciimcnpaaDoor
