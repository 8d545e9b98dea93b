/-
  api.Errno.Error at 33 and at -5, out of the library's contract on strconv.Itoa, laid at this dump.
-/
import Derived.Shelf.Strconv.Itoa3
import Derived.Shelf.Lay
import Derived.Ground.NamesProg
import Derived.Test.YtebpaolniemfgacDoorProg
import Derived.WalkKit
import Derived.WalkSpells
import Derived.WalkLawsBesides
namespace Go.Proofs.YtebpaolniemfgacDoor
open Go.Shelf Go.RowKit
shelf_lay LaysM.n171 Nm 171 at Tryd as Tryd.laysItoa
theorem itoa_any (n : Int) (h0 : -9223372036854775808 ≤ n) (h1 : n ≤ 9223372036854775807) (w : World) (htab : Lib.TabIs Tryd.prog w "internal/strconv.uint64pow10" .u64 Lib.pow10Tab) :
    Calls Tryd.prog 8 #[.int .i64 n] w fun e w' => e = .returned (.string ⟨(Lib.itoa n).toArray⟩) ∧ ∃ k os, w' = Sort.grow (w.drewN k) os := Any.strconv_Itoa Tryd.laysItoa n h0 h1 w htab
theorem itoa_small (i : Nat) (hi : i < 100) (w : World) :
    Calls Tryd.prog 8 #[.int .i64 i] w fun e w' => e = .returned (.string ⟨(Lib.decDigits i).toArray⟩) ∧ w' = w := Any.strconv_Itoa_small { Tryd.laysItoa with } i hi w
theorem d33 : (Lib.decDigits 33).toArray = #[51, 51] := by kernel_rfl
theorem dm5 : (Lib.itoa (-5)).toArray = #[45, 53] := by kernel_rfl
theorem error33 (w : World) : Calls Tryd.prog 7 #[.int .i64 33] w fun e w' => e = .returned (.string ⟨#[101, 114, 114, 111, 114, 32, 51, 51]⟩) ∧ w = w' := by
  go_enter Tryd.func7, Tryd.ntmps7
  go_wp2_with fail
  refine (itoa_small 33 (by decide) w).mono ?_
  rintro e w' ⟨rfl, rfl⟩
  rw [d33]
  go_wp2
  go_ret
  exact ⟨rfl, rfl⟩
theorem errorm5 (w : World) (htab : Lib.TabIs Tryd.prog w "internal/strconv.uint64pow10" .u64 Lib.pow10Tab) : Calls Tryd.prog 7 #[.int .i64 (-5)] w fun e w' => e = .returned (.string ⟨#[101, 114, 114, 111, 114, 32, 45, 53]⟩) ∧ ∃ k os, w' = Sort.grow (w.drewN k) os := by
  go_enter Tryd.func7, Tryd.ntmps7
  go_wp2_with fail
  refine (itoa_any (-5) (by decide) (by decide) w htab).mono ?_
  rintro e w' ⟨rfl, k, os, rfl⟩
  rw [dm5]
  go_wp2
  go_ret
  exact ⟨rfl, k, os, rfl⟩
end Go.Proofs.YtebpaolniemfgacDoor
