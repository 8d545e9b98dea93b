/-
  Layer 17: the flows' order; slices.SortFunc, laid at the flows' own instance.
-/
import Derived.Test.YtclpeepnngegaaaDoorFlLs
import Derived.Shelf.SlSortCmp.WholeK
import Derived.Shelf.Lay
import Derived.Ground.SlsfProg
namespace Go.Proofs
open Go.Shelf Go.RowKit Go.Lib Go.Sort
shelf_lay_g SlLaysF0.n6 Slsf 6 at Tryd 33 as YtclpeepnngegaaaDoor.sortRt
end Go.Proofs
namespace Go.Proofs.YtclpeepnngegaaaDoor
open Go.RowKit Go.Maps

theorem ord_swo : Go.Sort.SWO (Go.Proofs.ltOf ordV) where
  irrefl x := by
    unfold Go.Proofs.ltOf
    rw [decide_eq_false_iff_not]
    have := ordV_cmp.anti x x
    omega
  trans x y z h1 h2 := by
    unfold Go.Proofs.ltOf at *
    rw [decide_eq_true_iff] at *
    have a1 := ordV_cmp.anti x y
    have a2 := ordV_cmp.anti y z
    have a3 := ordV_cmp.anti x z
    have t1 := ordV_cmp.tran x y z
    have t2 := ordV_cmp.tran z x y
    omega
  ntrans x y z h1 h2 := by
    unfold Go.Proofs.ltOf at *
    rw [decide_eq_false_iff_not] at *
    have a1 := ordV_cmp.anti x y
    have a2 := ordV_cmp.anti y z
    have a3 := ordV_cmp.anti x z
    have t1 := ordV_cmp.tran z y x
    omega
instance : Inhabited FN := ⟨fz0⟩
def fcL (k : FN) : List Value := (flC k).toList
theorem fcL_len (k : FN) : (fcL k).length = 40 := rfl
theorem order_lays (blk off size : Nat) (w : World) : Go.Proofs.CmpLays Tryd.prog 34 #[] fcL 40 ordV blk off size w := fun _ _ _ _ a b => (order_gr a b _).mono fun _ _ ⟨he, hg⟩ => ⟨he, hg.grow⟩
end Go.Proofs.YtclpeepnngegaaaDoor
