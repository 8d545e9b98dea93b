/-
  The walk of ViewLooks.
-/
import Derived.Test.YtebpaolniemfgabOpenOps
namespace Go.Proofs.Ytebpaolniemfgab.viewLooks
open Go.RowKit

theorem plays1 (W : World) (o : OpV) (hk : o.kd = 1) (hok : o.ok W) :
    Calls Try.prog 44 #[.agg #[.int .i64 o.kd, .slice o.ba o.bl o.bc, .int .i64 o.at', .int .i64 o.n, .slice o.wa o.wl o.wc, .slice o.va o.vl o.vc]] W fun e w' => e = .returned (.bool true) ∧ Below W.heap.size W w' := by
  rw [hk]
  refine plays_any 1 o.at' o.n o.ba o.wa o.va o.bl o.bc o.wl o.wc o.vl o.vc o.bs o.ws o.vs W hok.bl hok.b hok.b256 hok.b2 hok.wl hok.wsg hok.w2 hok.vl hok.v hok.v2 ?_
  intro X xa ya za xc yc zc h1 h2 h3 _ _
  exact answered_uint o.at' o.n xa ya za o.bl xc o.wl yc o.vl zc o.bs X hok.bl h1 hok.b256 h2 h3 (by have := hok.b2; omega) hok.ha
theorem plays4 (W : World) (o : OpV) (hk : o.kd = 4) (hok : o.ok W) :
    Calls Try.prog 44 #[.agg #[.int .i64 o.kd, .slice o.ba o.bl o.bc, .int .i64 o.at', .int .i64 o.n, .slice o.wa o.wl o.wc, .slice o.va o.vl o.vc]] W fun e w' => e = .returned (.bool true) ∧ Below W.heap.size W w' := by
  rw [hk]
  refine plays_any 4 o.at' o.n o.ba o.wa o.va o.bl o.bc o.wl o.wc o.vl o.vc o.bs o.ws o.vs W hok.bl hok.b hok.b256 hok.b2 hok.wl hok.wsg hok.w2 hok.vl hok.v hok.v2 ?_
  intro X xa ya za xc yc zc h1 h2 h3 _ _
  exact answered_window o.at' o.n xa ya za o.bl xc o.wl yc o.vl zc o.bs X hok.bl h1 hok.b256 h2 h3 (by have := hok.b2; omega) hok.ha hok.hn

set_option maxHeartbeats 400000 in
theorem walk (w : World) (a0 : Option Addr) (len0 cap0 : Nat) (ops : List OpV) (hl : ops.length = len0) (hs : Script w a0 ops) (hn : len0 ≤ 1048576) :
    Calls Try.prog 6 #[.slice a0 len0 cap0] w fun e w' => e = .returned (.bool true) ∧ Below w.heap.size w w' := by
  subst hl
  go_enter Try.func6, Try.ntmps6
  go_wp2_with fail
  refine (started_any _).mono ?_
  rintro e w1 ⟨rfl, hb1⟩
  go_wp2_with fail
  refine (upTo_any a0 cap0 1 1 ops _ (hs.old hb1) hn (fun W o _ h1 h2 hok => plays1 W o (by omega) hok)).mono ?_
  rintro e w2 ⟨rfl, hb2⟩
  have hB2 : Below w.heap.size w w2 := hb1.trans (hb2.mono hb1.size)
  go_wp2_with fail
  refine (upTo_any a0 cap0 4 4 ops _ (hs.old hB2) hn (fun W o _ h1 h2 hok => plays4 W o (by omega) hok)).mono ?_
  rintro e w3 ⟨rfl, hb3⟩
  go_wp2
  go_ret
  exact ⟨rfl, hB2.trans (hb3.mono hB2.size)⟩
end Go.Proofs.Ytebpaolniemfgab.viewLooks
