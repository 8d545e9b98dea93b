/-
  Layer 14: routes held against one another; the parts of a route's value.
-/
import Derived.Test.YtdjbfhllialinaaDoorRtFd
namespace Go.Proofs.YtdjbfhllialinaaDoor
open Go.RowKit Go.Maps

theorem pf_part0 (p : PV) (w : World) : (part 25 (pfC p) 0).run Tryd.prog w = .ok (.agg (ipCells p.V p.x)) w := by
  have a5 := Tryd.isAgg25
  have z5 := Tryd.sizeOf25
  unfold pfC ipCells
  go_simp
theorem pf_part1 (p : PV) (w : World) : (part 3 (pfC p) 17).run Tryd.prog w = .ok (.int .i64 p.n) w := by
  have a5 := Tryd.isAgg3
  have z5 := Tryd.sizeOf3
  unfold pfC
  go_simp
theorem rt_part0 (r : RV) (w : World) : (part 27 (rtC r) 0).run Tryd.prog w = .ok (.agg (pfC r.p)) w := by kernel_rfl
theorem rt_part1 (r : RV) (w : World) : (part 3 (rtC r) 18).run Tryd.prog w = .ok (.int .i64 r.pt) w := by kernel_rfl
theorem rt_part2 (r : RV) (w : World) : (part 25 (rtC r) 19).run Tryd.prog w = .ok (.agg (ipCells r.U r.y)) w := by kernel_rfl
theorem Tryd.pfFields : Tryd.prog.underlying 27 = some (.struct (Tryd.prog.fieldsOf 27)) := by kernel_rfl
theorem Tryd.rtFields : Tryd.prog.underlying 29 = some (.struct (Tryd.prog.fieldsOf 29)) := by kernel_rfl
theorem Tryd.pfStood : Tryd.prog.stoodInHeld 27 = false := by kernel_rfl
theorem Tryd.rtStood : Tryd.prog.stoodInHeld 29 = false := by kernel_rfl
set_option maxHeartbeats 1600000 in
set_option maxRecDepth 100000 in
theorem eqPf (p q : PV) (w : World) (d : Nat) : (Op.equalIn (d + 4) 27 (.agg (pfC p)) (.agg (pfC q))).run Tryd.prog w = .ok (eqP p q) w := by
  rw [show (d + 4 : Nat) = (d + 3) + 1 from rfl, run_equalIn_struct w (d + 3) 27 _ _ Tryd.pfFields Tryd.pfStood]
  rw [show (Tryd.prog.fieldsOf 27).toList = [{ name := "IP", type := 25, offset := 0, embedded := false, tag := "", pkgPath := "", byteOffset := 0 }, { name := "Len", type := 3, offset := 17, embedded := false, tag := "", pkgPath := "", byteOffset := 24 }] from by kernel_rfl]
  simp only [Op.eqFields, Sem.run_bind, Sem.run_ite]
  rw [if_pos (by decide)]
  simp only [pf_part0, Result.andThen_ok, eqIP]
  unfold eqP
  cases h : (p.V == q.V && same16 p.x q.x)
  · simp
  · simp only [Result.andThen_ok, Bool.not_true, Bool.false_eq_true, if_false, pf_part1]
    rw [show (d + 3 : Nat) = (d + 2) + 1 from rfl, run_equalIn_int w (d + 2) 3 .i64 .i64 p.n q.n Tryd.underlying3]
    cases h2 : p.n == q.n <;> simp
def eqR (r s : RV) : Bool := eqP r.p s.p && r.pt == s.pt && (r.U == s.U && same16 r.y s.y)
set_option maxHeartbeats 1600000 in
set_option maxRecDepth 100000 in
theorem eqRt (r s : RV) (w : World) (d : Nat) : (Op.equalIn (d + 5) 29 (.agg (rtC r)) (.agg (rtC s))).run Tryd.prog w = .ok (eqR r s) w := by
  rw [show (d + 5 : Nat) = (d + 4) + 1 from rfl, run_equalIn_struct w (d + 4) 29 _ _ Tryd.rtFields Tryd.rtStood]
  rw [show (Tryd.prog.fieldsOf 29).toList = [{ name := "Prefix", type := 27, offset := 0, embedded := false, tag := "", pkgPath := "", byteOffset := 0 }, { name := "Port", type := 3, offset := 18, embedded := false, tag := "", pkgPath := "", byteOffset := 32 }, { name := "Via", type := 25, offset := 19, embedded := false, tag := "", pkgPath := "", byteOffset := 40 }] from by kernel_rfl]
  simp only [Op.eqFields, Sem.run_bind, Sem.run_ite]
  rw [if_pos (by decide)]
  simp only [rt_part0, Result.andThen_ok, eqPf]
  unfold eqR
  cases h : eqP r.p s.p
  · simp
  · simp only [Result.andThen_ok, Bool.not_true, Bool.false_eq_true, if_false, rt_part1]
    rw [if_pos (by decide)]
    rw [show (d + 4 : Nat) = (d + 3) + 1 from rfl, run_equalIn_int w (d + 3) 3 .i64 .i64 r.pt s.pt Tryd.underlying3]
    cases h2 : r.pt == s.pt
    · simp
    · simp only [Result.andThen_ok, Bool.not_true, Bool.false_eq_true, if_false, rt_part2]
      rw [if_pos (by decide), show (d + 3 + 1 : Nat) = (d + 1) + 3 from rfl]
      simp only [eqIP, Result.andThen_ok]
      cases (r.U == s.U && same16 r.y s.y) <;> simp
end Go.Proofs.YtdjbfhllialinaaDoor
