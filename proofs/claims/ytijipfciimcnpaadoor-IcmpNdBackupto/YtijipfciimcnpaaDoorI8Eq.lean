/-
  A neighbour's message held against itself.
-/
import Derived.Test.YtijipfciimcnpaaDoorI8Pure2
namespace Go.Proofs.YtijipfciimcnpaaDoor
open Go.RowKit
open I8 (M8)

set_option maxHeartbeats 1600000 in
set_option maxRecDepth 100000 in
theorem eq6d (x y : Nat → Nat) (w : World) (d : Nat) : (Op.equalIn (d + 2) 26 (.agg (macC x)) (.agg (macC y))).run Tryd.prog w = .ok (same6 x y) w := by
  have u5 := Tryd.underlying5
  have a5 := Tryd.isAgg5
  have z5 := Tryd.sizeOf5
  rw [show (d + 2 : Nat) = (d + 1) + 1 from rfl, Op.equalIn]
  unfold macC
  simp only [Sem.run_bind, run_underlying Tryd.underlying26, Result.andThen_ok]
  simp only [Std.Legacy.Range.forIn_eq_forIn_range', Std.Legacy.Range.size, Nat.sub_zero, Nat.add_sub_cancel, Nat.div_one, List.range'_succ, List.range'_zero, List.forIn_cons, List.forIn_nil]
  go_simp
  unfold same6
  (repeat' split) <;> simp_all <;> omega
theorem same6_self (x : Nat → Nat) : same6 x x = true := (same6_iff x x).2 (fun _ _ => rfl)
theorem same16_self (x : Nat → Nat) : same16 x x = true := (same16_iff x x).2 (fun _ _ => rfl)
theorem Tryd.ndFields : Tryd.prog.underlying 28 = some (.struct (Tryd.prog.fieldsOf 28)) := by kernel_rfl
theorem Tryd.ndStood : Tryd.prog.stoodInHeld 28 = false := by kernel_rfl
theorem Tryd.ndGuard : Tryd.prog.eqGuardType Tryd.prog.depth 28 = false := by kernel_rfl
section
variable (k V : Int) (x : Nat → Nat) (r s o h : Bool) (m : Nat → Nat) (w : World)
theorem nd_part0 : (part 3 (ndC k V x r s o h m) 0).run Tryd.prog w = .ok (.int .i64 k) w := by
  have a5 := Tryd.isAgg3
  have z5 := Tryd.sizeOf3
  unfold ndC
  go_simp
set_option maxRecDepth 100000 in
theorem nd_part1 : (part 24 (ndC k V x r s o h m) 1).run Tryd.prog w = .ok (.agg (ipCells V x)) w := by
  have a5 := Tryd.isAgg24
  have z5 := Tryd.sizeOf24
  unfold ndC ipCells
  go_simp
theorem nd_part18 : (part 4 (ndC k V x r s o h m) 18).run Tryd.prog w = .ok (.bool r) w := by
  have a5 := Tryd.isAgg4
  have z5 := Tryd.sizeOf4
  unfold ndC
  go_simp
theorem nd_part19 : (part 4 (ndC k V x r s o h m) 19).run Tryd.prog w = .ok (.bool s) w := by
  have a5 := Tryd.isAgg4
  have z5 := Tryd.sizeOf4
  unfold ndC
  go_simp
theorem nd_part20 : (part 4 (ndC k V x r s o h m) 20).run Tryd.prog w = .ok (.bool o) w := by
  have a5 := Tryd.isAgg4
  have z5 := Tryd.sizeOf4
  unfold ndC
  go_simp
theorem nd_part21 : (part 4 (ndC k V x r s o h m) 21).run Tryd.prog w = .ok (.bool h) w := by
  have a5 := Tryd.isAgg4
  have z5 := Tryd.sizeOf4
  unfold ndC
  go_simp
set_option maxRecDepth 100000 in
theorem nd_part22 : (part 26 (ndC k V x r s o h m) 22).run Tryd.prog w = .ok (.agg (macC m)) w := by
  have a5 := Tryd.isAgg26
  have z5 := Tryd.sizeOf26
  unfold ndC macC
  go_simp
set_option maxHeartbeats 1600000 in
set_option maxRecDepth 100000 in
theorem eqND : (Op.equalIn 10000 28 (.agg (ndC k V x r s o h m)) (.agg (ndC k V x r s o h m))).run Tryd.prog w = .ok true w := by
  rw [show (10000 : Nat) = 9999 + 1 from rfl, run_equalIn_struct w 9999 28 _ _ Tryd.ndFields Tryd.ndStood]
  rw [show (Tryd.prog.fieldsOf 28).toList = [{ name := "Kind", type := 3, offset := 0, embedded := false, tag := "", pkgPath := "", byteOffset := 0 }, { name := "Target", type := 24, offset := 1, embedded := false, tag := "", pkgPath := "", byteOffset := 8 }, { name := "Router", type := 4, offset := 18, embedded := false, tag := "", pkgPath := "", byteOffset := 32 }, { name := "Solicited", type := 4, offset := 19, embedded := false, tag := "", pkgPath := "", byteOffset := 33 }, { name := "Override", type := 4, offset := 20, embedded := false, tag := "", pkgPath := "", byteOffset := 34 }, { name := "HasMac", type := 4, offset := 21, embedded := false, tag := "", pkgPath := "", byteOffset := 35 }, { name := "Mac", type := 26, offset := 22, embedded := false, tag := "", pkgPath := "", byteOffset := 36 }] from by kernel_rfl]
  have ib : ∀ b : Bool, (Op.equalIn 9999 4 (.bool b) (.bool b)).run Tryd.prog w = .ok true w := fun b => by
    rw [show (9999 : Nat) = 9998 + 1 from rfl, run_equalIn_bool' w 9998 4 b b Tryd.underlying4, beq_self_eq_true]
  have ii : (Op.equalIn 9999 3 (.int .i64 k) (.int .i64 k)).run Tryd.prog w = .ok true w := by
    rw [show (9999 : Nat) = 9998 + 1 from rfl, run_equalIn_int w 9998 3 .i64 .i64 k k Tryd.underlying3, beq_self_eq_true]
  have ip : (Op.equalIn 9999 24 (.agg (ipCells V x)) (.agg (ipCells V x))).run Tryd.prog w = .ok true w := by
    rw [eqIP V V x x w 9996, same16_self, beq_self_eq_true]; rfl
  have im : (Op.equalIn 9999 26 (.agg (macC m)) (.agg (macC m))).run Tryd.prog w = .ok true w := by
    rw [eq6d m m w 9997, same6_self]
  simp [Op.eqFields, Sem.run_bind, Sem.run_ite, nd_part0, nd_part1, nd_part18, nd_part19, nd_part20, nd_part21, nd_part22, ib, ii, ip, im]
end
end Go.Proofs.YtijipfciimcnpaaDoor
