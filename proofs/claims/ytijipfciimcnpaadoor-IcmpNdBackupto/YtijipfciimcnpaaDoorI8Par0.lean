/-
  ParseND and PutND in numbers; a neighbour's message built.
-/
import Derived.Test.YtijipfciimcnpaaDoorI8Take4
import Derived.Test.YtijipfciimcnpaaDoorI8Dis
namespace Go.Proofs.YtijipfciimcnpaaDoor
open Go.RowKit
open I8 (M8)

def fB (r b : Int) : Bool := bits .and .i64 r b != 0
def lkM (m : M8) : (Nat → Nat) × Bool × Int := lk m.d (mkD m) m.d.length 16 false (fun _ => 0)
/-- what ParseND answers -/
def pdE (m : M8) : Int := if I8.chk m ≠ 0 then ((I8.chk m : Nat) : Int) else if isK (mkD m) then (if tgE m.d ≠ 0 then tgE m.d else (lkM m).2.2) else 83
def ndM (m : M8) : Array Value := ndC (mkD m) 6 (tgX m.d) (mkD m == 2 && fB m.r 2147483648) (mkD m == 2 && fB m.r 1073741824) (mkD m == 2 && fB m.r 536870912) (lkM m).2.1 (lkM m).1
def pdC (m : M8) : Array Value := if pdE m = 0 then ndM m else ndZ
theorem ndC_size (k V : Int) (x : Nat → Nat) (r s o h : Bool) (m : Nat → Nat) : (ndC k V x r s o h m).size = 28 := rfl
theorem ndC_one (k V : Int) (x : Nat → Nat) (r s o h : Bool) (m : Nat → Nat) : (ndC k V x r s o h m).all (·.oneCell') = true := by simp [ndC, Value.oneCell']
theorem built_nd0 : Tryd.prog.built 28 [] = some ndZ := by kernel_rfl
theorem wpList_nd0_built {ops : Array Oper} {rest : List Oper} {o : Oper} {a : Act} {w : World} {Q : Exit → Act → World → Prop} (ho : o.op = .build 28 #[]) (hw : Region.wanted o (yielded ops a.tmps) = true)
    (h : wpList Tryd.prog ops Q rest (a.put o.dst (.agg ndZ)) w) : wpList Tryd.prog ops Q (o :: rest) a w := by
  refine wpList_step fun K hK => ?_
  rw [if_pos hw]
  unfold Oper.wp execOp
  have := run_build (P := Tryd.prog) w 28 #[] _ built_nd0
  simp only [ho, Sem.run_bind, List.map_toArray, List.map_nil, this, Result.andThen_ok]
  exact hK _ _ h
theorem built_ndv (k V : Int) (x : Nat → Nat) (h : Bool) (m : Nat → Nat) : Tryd.prog.built 28 [(0, .int .i64 k), (1, .agg (ipCells V x)), (5, .bool h), (6, .agg (macC m))] = some (ndC k V x false false false h m) := by kernel_rfl
theorem wpList_ndv_built {ops : Array Oper} {rest : List Oper} {o : Oper} {a : Act} {w : World} {Q : Exit → Act → World → Prop} (x0 x1 x5 x6 : Operand) (ho : o.op = .build 28 #[(0, x0), (1, x1), (5, x5), (6, x6)]) (k V : Int) (x : Nat → Nat) (hb : Bool) (m : Nat → Nat) (h0 : a.eval x0 = .int .i64 k) (h1 : a.eval x1 = .agg (ipCells V x)) (h5 : a.eval x5 = .bool hb) (h6 : a.eval x6 = .agg (macC m)) (hw : Region.wanted o (yielded ops a.tmps) = true)
    (h : wpList Tryd.prog ops Q rest (a.put o.dst (.agg (ndC k V x false false false hb m))) w) : wpList Tryd.prog ops Q (o :: rest) a w := by
  refine wpList_step fun K hK => ?_
  rw [if_pos hw]
  unfold Oper.wp execOp
  have := run_build (P := Tryd.prog) w 28 #[(0, .int .i64 k), (1, .agg (ipCells V x)), (5, .bool hb), (6, .agg (macC m))] _ (built_ndv k V x hb m)
  simp only [ho, Sem.run_bind, List.map_toArray, List.map_cons, List.map_nil, h0, h1, h5, h6, this, Result.andThen_ok]
  exact hK _ _ h
theorem NdAt.fz {w : World} {O : Nat} {C : Array Value} (k : NdAt w O C) (i : Nat) : w.frozen? ⟨O, i, none⟩ = false := by unfold NdAt at k; simp [World.frozen?, k]
theorem NdAt.bits {w : World} {O : Nat} {k V : Int} {x : Nat → Nat} {r s o h : Bool} {m : Nat → Nat} (kk : NdAt w O (ndC k V x r s o h m)) (r' s' o' : Bool) : NdAt (((w.setCell ⟨O, 18, none⟩ (.bool r')).setCell ⟨O, 19, none⟩ (.bool s')).setCell ⟨O, 20, none⟩ (.bool o')) O (ndC k V x r' s' o' h m) ∧ Ch (fun q => q = O) w (((w.setCell ⟨O, 18, none⟩ (.bool r')).setCell ⟨O, 19, none⟩ (.bool s')).setCell ⟨O, 20, none⟩ (.bool o')) := by
  refine ⟨?_, (((Ch.refl (fun q => q = O) w).set _ _ rfl).set _ _ rfl).set _ _ rfl⟩
  unfold NdAt at kk ⊢
  have h1 := Go.heap_setCell_same _ O 18 _ _ (.bool r') kk
  have h2 := Go.heap_setCell_same _ O 19 _ _ (.bool s') h1
  rw [Go.heap_setCell_same _ O 20 _ _ (.bool o') h2]
  rfl
theorem diOf_link (k : Int) (h : isK k = true) : ∃ msg : Int, diOf k = diC k msg k ∧ (k = 1 ∨ k = 2) := by
  have h' : k = 1 ∨ k = 2 := by simpa [isK] using h
  rcases h' with rfl | rfl
  · exact ⟨135, rfl, .inl rfl⟩
  · exact ⟨136, rfl, .inr rfl⟩
theorem diC_new (k : Int) (h : isK k = true) (w : World) : ∃ msg : Int, diOf k = diC k msg k ∧ DiAt (w.alloc (.cells (diOf k) 85)) w.heap.size k msg k := by
  obtain ⟨msg, e, _⟩ := diOf_link k h
  exact ⟨msg, e, by rw [e]; exact diAt_new w k msg k⟩
theorem cutA_seg {w : World} {a : Option Addr} {d : List Nat} (n : Nat) (hn : d.length = n) (h : Seg .u8 w a (toI d)) : Seg .u8 w (cutA a 0 n) (toI d) := by
  have := h.cut 0 n (by rw [toI_len]; omega)
  rw [List.drop_zero, List.take_of_length_le (by rw [toI_len]; omega)] at this
  exact this
end Go.Proofs.YtijipfciimcnpaaDoor
