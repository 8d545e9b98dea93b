/-
  The statements' own: plain; started.
-/
import Derived.Test.YtdinhgfkpjaipaaDoorI4Har3
import Derived.Lib.SlBytesConst
namespace Go.Proofs.YtdinhgfkpjaipaaDoor
open Go.RowKit
open I4 (H4)

def plH : H4 := ⟨0, 0, false, false, 0, 64, 17, 4, fun i => [10, 0, 0, 1].getD i 0, 4, fun i => [10, 0, 0, 2].getD i 0, [], [104, 105]⟩
def plB : List Nat := [69, 0, 0, 22, 0, 0, 0, 0, 64, 17, 102, 213, 10, 0, 0, 1, 10, 0, 0, 2, 104, 105]
set_option maxRecDepth 100000 in
theorem pl_ser : I4.ser plH = plB := by decide
set_option maxRecDepth 100000 in
theorem pl_chk : I4.chk plH = 0 := by decide
theorem pl_may : I4.May plH := (I4.chk_zero plH).1 pl_chk
theorem pl_taken : I4.Taken plB := by rw [← pl_ser]; exact I4.ser_taken plH pl_may
theorem pl_eqv : I4.Eqv (I4.pH plB) plH := by rw [← pl_ser]; exact I4.ser_eq plH pl_may
theorem pl_pE : I4.pE plB = 0 := (I4.pE_zero plB).2 pl_taken
theorem pE_nil : I4.pE [] = 60 := by unfold I4.pE; rw [if_neg (by simp), if_pos (by simp)]
set_option maxRecDepth 100000 in
theorem built_plain (v : Value) : Tryd.prog.built 28 [(5, .int .i64 64), (6, .int .i64 17), (7, .agg (ipCells 4 plH.sx)), (8, .agg (ipCells 4 plH.dx)), (10, v)] = (match v with | .slice a n c => some (h4C plH nilS (.slice a n c)) | _ => Tryd.prog.built 28 [(5, .int .i64 64), (6, .int .i64 17), (7, .agg (ipCells 4 plH.sx)), (8, .agg (ipCells 4 plH.dx)), (10, v)]) := by
  cases v
  case slice a n c => kernel_rfl
  all_goals rfl
theorem wpList_build_plain {ops : Array Oper} {rest : List Oper} {o : Oper} {a : Act} {w : World} {Q : Exit → Act → World → Prop} (x7 x8 x10 : Operand) (ho : o.op = .build 28 #[(5, .const (.int .i64 64)), (6, .const (.int .i64 17)), (7, x7), (8, x8), (10, x10)]) (s : Option Addr) (n c : Nat) (h7 : a.eval x7 = .agg (ipCells 4 plH.sx)) (h8 : a.eval x8 = .agg (ipCells 4 plH.dx)) (h10 : a.eval x10 = .slice s n c) (hw : Region.wanted o (yielded ops a.tmps) = true)
    (h : wpList Tryd.prog ops Q rest (a.put o.dst (.agg (h4C plH nilS (.slice s n c)))) w) : wpList Tryd.prog ops Q (o :: rest) a w := by
  refine wpList_step fun K hK => ?_
  rw [if_pos hw]
  unfold Oper.wp execOp
  have := run_build (P := Tryd.prog) w 28 #[(5, .int .i64 64), (6, .int .i64 17), (7, .agg (ipCells 4 plH.sx)), (8, .agg (ipCells 4 plH.dx)), (10, .slice s n c)] _ (built_plain (.slice s n c))
  have c64 : a.eval (.const (.int .i64 64)) = .int .i64 64 := rfl
  have c17 : a.eval (.const (.int .i64 17)) = .int .i64 17 := rfl
  simp only [ho, Sem.run_bind, List.map_toArray, List.map_cons, List.map_nil, h7, h8, h10, c64, c17, this, Result.andThen_ok]
  exact hK _ _ h
set_option maxHeartbeats 1600000 in
set_option maxRecDepth 100000 in
theorem plain_any (w : World) : Calls Tryd.prog 47 #[] w fun e w' => ∃ s t, e = .returned (.tuple #[.agg (h4C plH nilS (.slice (some ⟨s, 0, none⟩) 2 2)), .slice (some ⟨t, 0, none⟩) 22 22]) ∧ Below w.heap.size w w' ∧ Seg .u8 w' (some ⟨s, 0, none⟩) (toI [104, 105]) ∧ Seg .u8 w' (some ⟨t, 0, none⟩) (toI plB) := by
  have hcv := Lib.run_convert_bytes_const (P := Tryd.prog) (w.alloc (.cells (h4C h4z nilS nilS) 28)) 26 5 #[.int .u8 104, .int .u8 105] 2 2 Tryd.underlying26 Tryd.underlying5
  rw [World.size_alloc] at hcv
  obtain ⟨W, hW⟩ : ∃ W, W = (w.alloc (.cells (h4C h4z nilS nilS) 28)).alloc (.cells #[.int .u8 104, .int .u8 105] 5 (2, 3)) := ⟨_, rfl⟩
  have belW : Below w.heap.size w W := by rw [hW]; exact ((Below.refl _ _).alloc (Nat.le_refl _) _).alloc (by simp) _
  have hsW : W.heap.size = w.heap.size + 1 + 1 := by rw [hW]; simp
  have hr : H4At W w.heap.size h4z nilS nilS := by
    rw [hW]
    exact (h4At_new w h4z nilS nilS).below ((Below.refl _ _).alloc (Nat.le_refl _) _)
  have hblk : W.heap[w.heap.size + 1]? = some (.cells #[.int .u8 104, .int .u8 105] 5 (2, 3)) := by
    rw [hW]
    have := heap_alloc_new (w.alloc (.cells (h4C h4z nilS nilS) 28)) (.cells #[.int .u8 104, .int .u8 105] 5 (2, 3))
    rwa [World.size_alloc] at this
  have hsg : Seg .u8 W (some ⟨w.heap.size + 1, 0, none⟩) (toI [104, 105]) := by
    refine .inr ⟨_, _, rfl, fun i hi => ?_⟩
    have hi2 : i < 2 := hi
    have : i = 0 ∨ i = 1 := by omega
    rcases this with rfl | rfl
    · simp [World.cell?, hblk, toI]
    · simp [World.cell?, hblk, toI]
  have hcw : (convert 26 26 (.slice (some ⟨w.heap.size + 1, 0, none⟩) 2 2)).run Tryd.prog ((w.alloc (.cells (h4C h4z nilS nilS) 28)).alloc (.cells #[.int .u8 104, .int .u8 105] 5)) = .ok (.slice (some ⟨w.heap.size + 1, 0, none⟩) 2 2) W := by rw [hW]; exact hcv
  have HS : Hid _ := hsW
  have HR : Hid (H4At W w.heap.size h4z nilS nilS) := hr
  have HG : Hid (Seg .u8 W (some ⟨w.heap.size + 1, 0, none⟩) (toI [104, 105])) := hsg
  have hbW := belW.size
  clear hW hsW hr hsg hblk hcv
  go_enter Tryd.func47, Tryd.ntmps47
  go_wp2_with (first | (refine wpList_alloc_h4 rfl rfl ?_) | (refine wpList_build_plain (.tmp 4) (.tmp 6) (.tmp 8) rfl _ 2 2 rfl rfl rfl rfl ?_) | (refine wpList_store_h4 (.tmp 2) (.tmp 9) rfl rfl W.heap.size h4z plH nilS nilS nilS _ rfl rfl rfl rfl (h4At_new _ _ _ _) rfl ?_))
  intro w2 hP2 k2
  have sb := stored_below k2
  have bel2 : Below w.heap.size w w2 := belW.trans (sb.mono hbW)
  have HP2 : Hid (H4At w2 W.heap.size plH nilS (.slice (some ⟨w.heap.size + 1, 0, none⟩) 2 2)) := hP2
  have HR2 : Hid (H4At w2 w.heap.size h4z nilS nilS) := H4At.below HR.out sb
  have HG2 : Hid (Seg .u8 w2 (some ⟨w.heap.size + 1, 0, none⟩) (toI [104, 105])) := HG.out.old sb
  clear hP2 k2 sb
  have sg3 := seg_new3 w2 .u8 5 (toI plB)
  have HG3 : Hid _ := sg3
  have al : ∀ X, Below w2.heap.size w2 (w2.alloc X) := fun X => (Below.refl _ _).alloc (Nat.le_refl _) X
  have HAL : Hid _ := al
  clear sg3 al
  go_wp2_with (first | (refine wpList_load_h4 _ rfl W.heap.size plH nilS (.slice (some ⟨w.heap.size + 1, 0, none⟩) 2 2) rfl HP2.out rfl ?_) | (refine wpList_store_h4 (.tmp 0) (.tmp 10) rfl rfl w.heap.size h4z plH nilS nilS nilS _ rfl rfl rfl rfl (H4At.below HR2.out (HAL.out _)) rfl ?_))
  intro w4 hP4 k4
  have HP4 : Hid (H4At w4 w.heap.size plH nilS (.slice (some ⟨w.heap.size + 1, 0, none⟩) 2 2)) := hP4
  have bel4 : Below w.heap.size w w4 := (bel2.alloc bel2.size _).trans (k4.below (fun q e => by have e' : q = w.heap.size := e; omega) (by simp; have := bel2.size; omega))
  have HG4 : Hid (Seg .u8 w4 (some ⟨w.heap.size + 1, 0, none⟩) (toI [104, 105])) := k4.seg (HG2.out.old (HAL.out _)) (fun z _ hz e => by have e' : z.block = w.heap.size := e; have := Option.some.inj hz; subst this; simp at e')
  have HT4 : Hid (Seg .u8 w4 (some ⟨w2.heap.size, 0, none⟩) (toI plB)) := k4.seg HG3.out (fun z _ hz e => by have e' : z.block = w.heap.size := e; have := Option.some.inj hz; subst this; have h5 := HR2.out.lt; simp at e'; omega)
  clear hP4 k4
  go_wp2
  (try simp only [Exit.inBlock, Exit.then])
  refine bodyPost_ret (results_h4_tmp rfl _ _ w.heap.size plH nilS (.slice (some ⟨w.heap.size + 1, 0, none⟩) 2 2) rfl HP4.out) rfl ?_
  exact ⟨_, _, rfl, bel4, HG4.out, HT4.out⟩
end Go.Proofs.YtdinhgfkpjaipaaDoor
