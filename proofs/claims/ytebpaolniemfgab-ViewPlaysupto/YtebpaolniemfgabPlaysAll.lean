/-
  Each look of a script, by its kind.
-/
import Derived.Test.YtebpaolniemfgabOpenOps
import Derived.Test.YtebpaolniemfgabAnswered2
namespace Go.Proofs.Ytebpaolniemfgab.each
open Go.RowKit

theorem plays1 (W : World) (o : OpV) (hk : o.kd = 1) (hok : o.ok W) :
    Calls Try.prog 44 #[.agg #[.int .i64 o.kd, .slice o.ba o.bl o.bc, .int .i64 o.at', .int .i64 o.n, .slice o.wa o.wl o.wc, .slice o.va o.vl o.vc]] W fun e w' => e = .returned (.bool true) ∧ Below W.heap.size W w' := by
  rw [hk]
  refine plays_any 1 o.at' o.n o.ba o.wa o.va o.bl o.bc o.wl o.wc o.vl o.vc o.bs o.ws o.vs W hok.bl hok.b hok.b256 hok.b2 hok.wl hok.wsg hok.w2 hok.vl hok.v hok.v2 ?_
  intro X xa ya za xc yc zc h1 h2 h3 _ _
  exact answered_uint o.at' o.n xa ya za o.bl xc o.wl yc o.vl zc o.bs X hok.bl h1 hok.b256 h2 h3 (by have := hok.b2; omega) hok.ha
theorem plays4 (W : World) (o : OpV) (hk : o.kd = 4) (hok : o.ok W) :
    Calls Try.prog 44 #[.agg #[.int .i64 o.kd, .slice o.ba o.bl o.bc, .int .i64 o.at', .int .i64 o.n, .slice o.wa o.wl o.wc, .slice o.va o.vl o.vc]] W fun e w' => e = .returned (.bool true) ∧ Below W.heap.size W w' := by
  rw [hk]
  refine plays_any 4 o.at' o.n o.ba o.wa o.va o.bl o.bc o.wl o.wc o.vl o.vc o.bs o.ws o.vs W hok.bl hok.b hok.b256 hok.b2 hok.wl hok.wsg hok.w2 hok.vl hok.v hok.v2 ?_
  intro X xa ya za xc yc zc h1 h2 h3 _ _
  exact answered_window o.at' o.n xa ya za o.bl xc o.wl yc o.vl zc o.bs X hok.bl h1 hok.b256 h2 h3 (by have := hok.b2; omega) hok.ha hok.hn

theorem plays2 (W : World) (o : OpV) (hk : o.kd = 2) (hok : o.ok W) :
    Calls Try.prog 44 #[.agg #[.int .i64 o.kd, .slice o.ba o.bl o.bc, .int .i64 o.at', .int .i64 o.n, .slice o.wa o.wl o.wc, .slice o.va o.vl o.vc]] W fun e w' => e = .returned (.bool true) ∧ Below W.heap.size W w' := by
  rw [hk]
  refine plays_any 2 o.at' o.n o.ba o.wa o.va o.bl o.bc o.wl o.wc o.vl o.vc o.bs o.ws o.vs W hok.bl hok.b hok.b256 hok.b2 hok.wl hok.wsg hok.w2 hok.vl hok.v hok.v2 ?_
  intro X xa ya za xc yc zc h1 h2 h3 h4 _
  exact answered_fields o.at' o.n xa ya za o.bl xc o.wl yc o.vl zc o.bs o.ws X hok.bl h1 hok.b256 h2 h3 (by have := hok.b2; omega) hok.ha hok.wl h4 hok.w2
theorem plays3 (W : World) (o : OpV) (hk : o.kd = 3) (hok : o.ok W) :
    Calls Try.prog 44 #[.agg #[.int .i64 o.kd, .slice o.ba o.bl o.bc, .int .i64 o.at', .int .i64 o.n, .slice o.wa o.wl o.wc, .slice o.va o.vl o.vc]] W fun e w' => e = .returned (.bool true) ∧ Below W.heap.size W w' := by
  rw [hk]
  refine plays_any 3 o.at' o.n o.ba o.wa o.va o.bl o.bc o.wl o.wc o.vl o.vc o.bs o.ws o.vs W hok.bl hok.b hok.b256 hok.b2 hok.wl hok.wsg hok.w2 hok.vl hok.v hok.v2 ?_
  intro X xa ya za xc yc zc _ _ _ h4 h5
  exact answered_pack o.at' o.n xa ya za o.bl xc o.wl yc o.vl zc o.ws o.vs X hok.wl h4 hok.w2 hok.vl h5 hok.v2
theorem plays_all (W : World) (o : OpV) (h1 : 1 ≤ o.kd) (h2 : o.kd ≤ 4) (hok : o.ok W) :
    Calls Try.prog 44 #[.agg #[.int .i64 o.kd, .slice o.ba o.bl o.bc, .int .i64 o.at', .int .i64 o.n, .slice o.wa o.wl o.wc, .slice o.va o.vl o.vc]] W fun e w' => e = .returned (.bool true) ∧ Below W.heap.size W w' := by
  rcases (show o.kd = 1 ∨ o.kd = 2 ∨ o.kd = 3 ∨ o.kd = 4 by omega) with h | h | h | h
  · exact plays1 W o h hok
  · exact plays2 W o h hok
  · exact plays3 W o h hok
  · exact plays4 W o h hok
end Go.Proofs.Ytebpaolniemfgab.each
