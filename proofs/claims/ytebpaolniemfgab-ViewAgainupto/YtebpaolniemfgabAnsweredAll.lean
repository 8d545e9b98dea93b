/-
  The statements' answered, of whatever kind.
-/
import Derived.Test.YtebpaolniemfgabAnswered2
namespace Go.Proofs.Ytebpaolniemfgab
open Go.RowKit

set_option maxRecDepth 100000 in
set_option maxHeartbeats 800000 in
theorem answered_other (kd at' n : Int) (ba wa va : Option Addr) (bl bc wl wc vl vc : Nat) (w : World) (h1 : (kd == 1) = false) (h2 : (kd == 2) = false) (h3 : (kd == 3) = false) (h4 : (kd == 4) = false) :
    Calls Try.prog 25 #[.agg #[.int .i64 kd, .slice ba bl bc, .int .i64 at', .int .i64 n, .slice wa wl wc, .slice va vl vc]] w fun e w' => e = .returned (.bool true) ∧ Below w.heap.size w w' := by
  have hB : ∀ X, Below w.heap.size w (w.alloc X) := fun X => (Below.refl _ _).alloc (Nat.le_refl _) X
  go_enter Try.func25, Try.ntmps25
  go_wp2
  go_ret
  exact ⟨rfl, hB _⟩

theorem answered_all (kd at' n : Int) (ba wa va : Option Addr) (bl bc wl wc vl vc : Nat) (bs : List Nat) (ws vs : List Int) (w : World) (hl : bs.length = bl) (hb : Seg .u8 w ba (toI bs)) (h256 : ∀ x ∈ bs, x < 256) (hbc : bl ≤ bc) (hc : bc ≤ 9223372036854775807) (hbl : bl ≤ 1048576)
    (ha : at' ≤ 9223372036854775807) (hn : n ≤ 9223372036854775807) (hwl : ws.length = wl) (hw : Seg .i64 w wa ws) (hw2 : wl ≤ 1048576) (hvl : vs.length = vl) (hv : Seg .i64 w va vs) (hv2 : vl ≤ 1048576) :
    Calls Try.prog 25 #[.agg #[.int .i64 kd, .slice ba bl bc, .int .i64 at', .int .i64 n, .slice wa wl wc, .slice va vl vc]] w fun e w' => e = .returned (.bool true) ∧ Below w.heap.size w w' := by
  by_cases h1 : kd = 1
  · subst h1; exact answered_uint at' n ba wa va bl bc wl wc vl vc bs w hl hb h256 hbc hc (by omega) ha
  · by_cases h2 : kd = 2
    · subst h2; exact answered_fields at' n ba wa va bl bc wl wc vl vc bs ws w hl hb h256 hbc hc (by omega) ha hwl hw hw2
    · by_cases h3 : kd = 3
      · subst h3; exact answered_pack at' n ba wa va bl bc wl wc vl vc ws vs w hwl hw hw2 hvl hv hv2
      · by_cases h4 : kd = 4
        · subst h4; exact answered_window at' n ba wa va bl bc wl wc vl vc bs w hl hb h256 hbc hc (by omega) ha hn
        · exact answered_other kd at' n ba wa va bl bc wl wc vl vc w (beq_eq_false_iff_ne.2 h1) (beq_eq_false_iff_ne.2 h2) (beq_eq_false_iff_ne.2 h3) (beq_eq_false_iff_ne.2 h4)
end Go.Proofs.Ytebpaolniemfgab
