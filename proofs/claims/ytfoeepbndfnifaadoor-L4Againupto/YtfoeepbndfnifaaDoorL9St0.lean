/-
  The statements' started: a datagram and a segment there and back at given values.
-/
import Derived.Test.YtfoeepbndfnifaaDoorL9Har
namespace Go.Proofs.YtfoeepbndfnifaaDoor
open Go.RowKit
open L4 (U9 T9)

theorem Tryd.sizeIPz : (Tryd.prog.info? 24).map (·.size) = some 17 := by kernel_rfl
def IpRow (w : World) (O : Nat) (C : Array Value) : Prop := w.heap[O]? = some (.cells C 24 (0, 0))
theorem ipRow_boxed {w : World} {O : Nat} {V : Int} {x : Nat → Nat} (h : IpRow w O (ipCells V x)) : Boxed w O V x := by
  have hc : ∀ i, w.cell? ⟨O, i, none⟩ = (ipCells V x)[i]? := fun i => by unfold IpRow at h; simp [World.cell?, h]
  refine ⟨hc 0, fun i hi => ?_⟩
  rw [hc, ipCells_eq]
  simp [Nat.add_comm 1 i, hi]
theorem wpList_alloc_ip {ops : Array Oper} {rest : List Oper} {o : Oper} {a : Act} {w : World} {Q : Exit → Act → World → Prop} (ho : o.op = .alloc 24) (hw : Region.wanted o (yielded ops a.tmps) = true)
    (h : wpList Tryd.prog ops Q rest (a.put o.dst (.pointer (some ⟨w.heap.size, 0, none⟩))) (w.alloc (.cells (ipCells 0 (fun _ => 0)) 24))) : wpList Tryd.prog ops Q (o :: rest) a w := by
  refine wpList_step fun K hK => ?_
  rw [if_pos hw]
  have hrun : (execOp a.eval o).run Tryd.prog w = .ok (.value (.pointer (some ⟨w.heap.size, 0, none⟩))) (w.alloc (.cells (ipCells 0 (fun _ => 0)) 24)) := by
    obtain ⟨dst, op, type, pos, after, guard⟩ := o
    simp only at ho
    subst ho
    simp only [execOp]
    go_simp
    rfl
  unfold Oper.wp
  rw [hrun]
  exact hK _ _ h
theorem wpList_store_ip {ops : Array Oper} {rest : List Oper} {o : Oper} {a : Act} {w : World} {Q : Exit → Act → World → Prop} (x y : Operand) (ho : o.op = .store 24 x y) (hd : o.dst = none) (O : Nat) (V U : Int) (f g : Nat → Nat) (hx : a.eval x = .pointer (some ⟨O, 0, none⟩)) (hy : a.eval y = .agg (ipCells U g)) (hb : IpRow w O (ipCells V f))
    (hw : Region.wanted o (yielded ops a.tmps) = true) (hh : ∀ w', IpRow w' O (ipCells U g) → Ch (fun q => q = O) w w' → wpList Tryd.prog ops Q rest a w') : wpList Tryd.prog ops Q (o :: rest) a w := by
  refine wpList_step fun K hK => ?_
  rw [if_pos hw]
  refine wp_store_row 24 x y ho O (ipCells U g) hx hy _ (ipCells V f) hb Tryd.sizeIPz rfl (by simp [ipCells, Value.oneCell']) (hK _ _ ?_)
  rw [hd]
  refine hh _ (setRow_heap w O _ _ _ _ hb) ⟨rfl, rfl, rfl, ?_, ?_⟩
  · simp [World.setRow]
  · intro k hk hne
    simp only [World.setRow]
    rw [Array.getElem?_modify, if_neg (fun e => hne e.symm)]

def ipA : Nat → Nat := fun i => if i = 0 then 10 else if i = 3 then 1 else 0
def ipZ : Nat → Nat := fun i => if i = 0 then 10 else if i = 3 then 2 else 0
theorem results_cell_cell {fn : Func} {p q : Tmp} {ty : TypeId} (h : fn.results = #[.cell p ty, .cell q ty]) (tmps : Array Value) (P : Program) (w : World) :
    (results fn tmps).run P w = ((asAddr (tmps.getD p undef)).run P w).andThen fun a w1 => ((loadVar ty a).run P w1).andThen fun v w2 => ((asAddr (tmps.getD q undef)).run P w2).andThen fun b w3 => ((loadVar ty b).run P w3).andThen fun u w4 => .ok (.tuple #[v, u]) w4 := by
  simp only [results, h]
  simp [Sem.run_bind, Result.andThen]
theorem results_ip_ip {fn : Func} {p q : Tmp} (h : fn.results = #[.cell p 24, .cell q 24]) (tmps : Array Value) (w : World) (O R : Nat) (V U : Int) (x y : Nat → Nat) (hp : tmps.getD p undef = .pointer (some ⟨O, 0, none⟩)) (hq : tmps.getD q undef = .pointer (some ⟨R, 0, none⟩)) (hb : IpRow w O (ipCells V x)) (hc : IpRow w R (ipCells U y)) :
    (results fn tmps).run Tryd.prog w = .ok (.tuple #[.agg (ipCells V x), .agg (ipCells U y)]) w := by
  have e1 := run_loadVar_row w O _ 24 (ipCells V x) _ _ hb Tryd.underlying24 rfl Tryd.sizeIPz
  have e2 := run_loadVar_row w R _ 24 (ipCells U y) _ _ hc Tryd.underlying24 rfl Tryd.sizeIPz
  rw [results_cell_cell h tmps Tryd.prog w, hp, hq]
  simp [asAddr, e1, e2, Result.andThen]
set_option maxHeartbeats 800000 in
set_option maxRecDepth 100000 in
theorem ends_any (w : World) : Calls Tryd.prog 22 #[] w fun e w' => e = .returned (.tuple #[.agg (ipCells 4 ipA), .agg (ipCells 4 ipZ)]) ∧ Below w.heap.size w w' := by
  have hb : Below w.heap.size w ((w.alloc (.cells (ipCells 0 (fun _ => 0)) 24)).alloc (.cells (ipCells 0 (fun _ => 0)) 24)) := ((Below.refl _ _).alloc (Nat.le_refl _) _).alloc (by simp) _
  have h1 : IpRow ((w.alloc (.cells (ipCells 0 (fun _ => 0)) 24)).alloc (.cells (ipCells 0 (fun _ => 0)) 24)) w.heap.size (ipCells 0 (fun _ => 0)) := ((Below.refl _ _).alloc (Nat.le_refl _) _ |>.block w.heap.size (by simp)).trans (heap_alloc_new _ _)
  have h2 : IpRow ((w.alloc (.cells (ipCells 0 (fun _ => 0)) 24)).alloc (.cells (ipCells 0 (fun _ => 0)) 24)) (w.heap.size + 1) (ipCells 0 (fun _ => 0)) := by
    have := heap_alloc_new (w.alloc (.cells (ipCells 0 (fun _ => 0)) 24)) (.cells (ipCells 0 (fun _ => 0)) 24)
    rw [World.size_alloc] at this
    exact this
  obtain ⟨W, hW⟩ : ∃ W, W = (w.alloc (.cells #[.int .i64 0, .int .u8 0, .int .u8 0, .int .u8 0, .int .u8 0, .int .u8 0, .int .u8 0, .int .u8 0, .int .u8 0, .int .u8 0, .int .u8 0, .int .u8 0, .int .u8 0, .int .u8 0, .int .u8 0, .int .u8 0, .int .u8 0] 24)).alloc (.cells #[.int .i64 0, .int .u8 0, .int .u8 0, .int .u8 0, .int .u8 0, .int .u8 0, .int .u8 0, .int .u8 0, .int .u8 0, .int .u8 0, .int .u8 0, .int .u8 0, .int .u8 0, .int .u8 0, .int .u8 0, .int .u8 0, .int .u8 0] 24) := ⟨_, rfl⟩
  have hW2 : W = (w.alloc (.cells (ipCells 0 (fun _ => 0)) 24)).alloc (.cells (ipCells 0 (fun _ => 0)) 24) := hW
  rw [← hW2] at hb h1 h2
  obtain ⟨O, hO⟩ : ∃ O, O = w.heap.size := ⟨_, rfl⟩
  rw [← hO] at h1 h2
  have HW : Hid ((w.alloc (.cells #[.int .i64 0, .int .u8 0, .int .u8 0, .int .u8 0, .int .u8 0, .int .u8 0, .int .u8 0, .int .u8 0, .int .u8 0, .int .u8 0, .int .u8 0, .int .u8 0, .int .u8 0, .int .u8 0, .int .u8 0, .int .u8 0, .int .u8 0] 24)).alloc (.cells #[.int .i64 0, .int .u8 0, .int .u8 0, .int .u8 0, .int .u8 0, .int .u8 0, .int .u8 0, .int .u8 0, .int .u8 0, .int .u8 0, .int .u8 0, .int .u8 0, .int .u8 0, .int .u8 0, .int .u8 0, .int .u8 0, .int .u8 0] 24) = W) := hW.symm
  have HO : Hid (w.heap.size = O) := hO.symm
  have H1 : Hid (IpRow W O (ipCells 0 (fun _ => 0))) := h1
  have H2 : Hid (IpRow W (O + 1) (ipCells 0 (fun _ => 0))) := h2
  clear h1 h2 hW hO hW2
  go_enter Tryd.func22, Tryd.ntmps22
  go_upto_region 1 with fail
  rw [HW.out]
  try rw [HO.out]
  go_wp2_with (first | (refine wpList_store_ip (.tmp 0) (.tmp 3) rfl rfl O 0 4 (fun _ => 0) ipA rfl rfl H1.out rfl ?_))
  intro w2 hA hcA
  have HA : Hid (IpRow w2 O (ipCells 4 ipA)) := hA
  have HB2 : Hid (IpRow w2 (O + 1) (ipCells 0 (fun _ => 0))) := (hcA.block (O + 1) (Array.getElem?_eq_some_iff.1 H2.out).1 (by omega)).trans H2.out
  have hb2 : Below w.heap.size w w2 := hb.trans (hcA.below (fun q e => by have e' : q = O := e; have := HO.out; omega) hb.size)
  clear hA hcA
  go_wp2_with (first | (refine wpList_store_ip (.tmp 1) (.tmp 5) rfl rfl (O + 1) 0 4 (fun _ => 0) ipZ rfl rfl HB2.out rfl ?_))
  intro w3 hB hcB
  have HB3 : Hid (IpRow w3 (O + 1) (ipCells 4 ipZ)) := hB
  have HA3 : Hid (IpRow w3 O (ipCells 4 ipA)) := (hcB.block O (Array.getElem?_eq_some_iff.1 HA.out).1 (by omega)).trans HA.out
  have HF : Hid (Below w.heap.size w w3) := hb2.trans (hcB.below (fun q e => by have e' : q = O + 1 := e; have := HO.out; omega) hb2.size)
  clear hB hcB
  go_wp2
  (try simp only [Exit.inBlock, Exit.then])
  refine bodyPost_ret (results_ip_ip rfl _ _ O (O + 1) 4 4 ipA ipZ rfl rfl HA3.out HB3.out) rfl ?_
  exact ⟨rfl, HF.out⟩
theorem ipA256 : ∀ i, i < 16 → ipA i < 256 := by intro i _; unfold ipA; split; omega; split <;> omega
theorem ipZ256 : ∀ i, i < 16 → ipZ i < 256 := by intro i _; unfold ipZ; split; omega; split <;> omega
theorem psAZ : psOk 4 4 ipA ipZ = true := by decide
/-- the three tables -/
structure Tabs (w : World) : Prop where
  u : UW w
  t : TW w
  l : LW w
theorem Tabs.old {w w' : World} (h : Tabs w) (hb : Below w.heap.size w w') : Tabs w' := ⟨h.u.old hb, h.t.old hb, h.l.old hb⟩
end Go.Proofs.YtfoeepbndfnifaaDoor
