/-
  view.cut: where the bytes are there it hands back their window; where they are not it panics.
-/
import Derived.Test.YtfoeepbndfnifaaDoorBytesOf
namespace Go.Proofs.YtfoeepbndfnifaaDoor
open Go.RowKit

set_option maxHeartbeats 400000 in
theorem cut_ok (ad : Option Addr) (len cap at' n : Nat) (w : World) (h1 : at' + n ≤ len) (h2 : len ≤ cap) (h3 : cap ≤ 9223372036854775807) :
    Calls Tryd.prog 58 #[.slice ad len cap, .int .i64 at', .int .i64 n] w fun e w' => e = .returned (.slice (cutA ad at' n) n n) ∧ w' = w := by
  by_cases h0 : n = 0
  · subst h0
    go_enter Tryd.func58, Tryd.ntmps58
    go_wp2
    go_ret
    exact ⟨by simp [cutA], rfl⟩
  · go_enter Tryd.func58, Tryd.ntmps58
    have h4 : ¬ at' + n = at' := by omega
    go_wp2
    go_ret
    exact ⟨by simp [cutA, h0], rfl⟩
set_option maxHeartbeats 400000 in
theorem cut_no (ad : Option Addr) (len cap : Nat) (at' n : Int) (w : World) (h1 : at' < 0 ∨ (len : Int) < at' + n) (h2 : len ≤ cap) (h3 : cap ≤ 9223372036854775807) (hn : 0 ≤ n) (hn2 : n ≤ 9223372036854775807) (ha : at' ≤ 9223372036854775807) :
    Calls Tryd.prog 58 #[.slice ad len cap, .int .i64 at', .int .i64 n] w fun e w' => e = .panicked [{ v := .iface 38 (.int .i64 10), recovered := false }] ∧ w' = w := by
  by_cases h0 : at' < 0
  · go_enter Tryd.func58, Tryd.ntmps58
    go_wp2
    exact ⟨rfl, rfl, rfl⟩
  · have h4 : ((len : Int) - at' < n) := by omega
    go_enter Tryd.func58, Tryd.ntmps58
    go_wp2
    exact ⟨rfl, rfl, rfl⟩
end Go.Proofs.YtfoeepbndfnifaaDoor
