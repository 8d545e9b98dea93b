/-
  ip4's small ones: within, bit, number, address, isFour.
-/
import Derived.Test.YtdinhgfkpjaipaaDoorI4Ip
import Derived.Test.YtdinhgfkpjaipaaDoorI4Spec
import Derived.Test.YtdinhgfkpjaipaaDoorMixH
import Derived.Laws.Tables
import Derived.Laws.ResultCell
import Derived.Test.YtdinhgfkpjaipaaDoorI4Sum
import Derived.Laws.Rows
import Derived.Laws.BitsAllLaws
namespace Go.Proofs.YtdinhgfkpjaipaaDoor
open Go.RowKit

theorem within_any (v m : Int) (w : World) : Calls Tryd.prog 85 #[.int .i64 v, .int .i64 m] w fun e w' => e = .returned (.bool (I4.within v m)) ∧ w = w' := by
  by_cases h1 : 0 ≤ v
  · go_enter Tryd.func85, Tryd.ntmps85
    go_wp2
    go_ret
    exact ⟨congrArg (fun b => Ending.returned (.bool b)) (by simp [I4.within, h1]), rfl⟩
  · go_enter Tryd.func85, Tryd.ntmps85
    go_wp2
    go_ret
    exact ⟨congrArg (fun b => Ending.returned (.bool b)) (by simp [I4.within]; omega), rfl⟩
def bitI (b : Bool) : Int := if b then 1 else 0
theorem bit_any (b : Bool) (w : World) : Calls Tryd.prog 78 #[.bool b] w fun e w' => e = .returned (.int .i64 (bitI b)) ∧ w = w' := by
  cases b
  all_goals
    go_enter Tryd.func78, Tryd.ntmps78
    go_wp2
    go_ret
    exact ⟨rfl, rfl⟩
/-- what four bytes make -/
def num4 (x : Nat → Nat) : Nat := ((x 0 * 256 + x 1) * 256 + x 2) * 256 + x 3
theorem i64_or_nat (a b : Nat) (ha : a < 9223372036854775808) (hb : b < 9223372036854775808) : bits .or .i64 (a : Int) (b : Int) = ((a ||| b : Nat) : Int) := by
  have hx : a ||| b < 2 ^ 63 := Nat.or_lt_two_pow (by omega) (by omega)
  show IntKind.i64.wrap ((BitVec.ofInt 64 (a : Int) ||| BitVec.ofInt 64 (b : Int)).toNat : Int) = _
  rw [BitVec.toNat_or, ofInt_u64 a (by omega), ofInt_u64 b (by omega)]
  rw [IntKind.wrap_i64]; omega
theorem or_low (a b k : Nat) (A : Int) (hA : A = ((2 ^ k * a : Nat) : Int)) (ha : 2 ^ k * a < 9223372036854775808) (hb : b < 2 ^ k) (hb2 : b < 9223372036854775808) : bits .or .i64 A (b : Int) = ((2 ^ k * a + b : Nat) : Int) := by
  rw [hA, i64_or_nat _ _ ha hb2, ← Nat.two_pow_add_eq_or_of_lt hb a]
set_option maxHeartbeats 800000 in
set_option maxRecDepth 100000 in
theorem number_any (V : Int) (x : Nat → Nat) (w : World) (h : ∀ i, i < 16 → x i < 256) :
    Calls Tryd.prog 79 #[.agg (ipCells V x)] w fun e w' => e = .returned (.int .i64 (num4 x : Nat)) ∧ Below w.heap.size w w' := by
  have h0 := h 0 (by omega)
  have h1 := h 1 (by omega)
  have h2 := h 2 (by omega)
  have h3 := h 3 (by omega)
  unfold ipCells
  go_enter Tryd.func79, Tryd.ntmps79
  go_wp2
  go_ret
  refine ⟨?_, (Below.refl _ _).alloc (Nat.le_refl _) _⟩
  have e1 : bits .or .i64 ((x 0 : Int) * 16777216) ((x 1 : Int) * 65536) = ((2 ^ 16 * (x 0 * 256 + x 1) : Nat) : Int) := by
    rw [show ((x 1 : Int) * 65536) = ((x 1 * 65536 : Nat) : Int) by omega, or_low (x 0) (x 1 * 65536) 24 _ (by omega) (by omega) (by omega) (by omega)]
    omega
  have e2 : bits .or .i64 ((2 ^ 16 * (x 0 * 256 + x 1) : Nat) : Int) ((x 2 : Int) * 256) = ((2 ^ 8 * ((x 0 * 256 + x 1) * 256 + x 2) : Nat) : Int) := by
    rw [show ((x 2 : Int) * 256) = ((x 2 * 256 : Nat) : Int) by omega, or_low (x 0 * 256 + x 1) (x 2 * 256) 16 _ rfl (by omega) (by omega) (by omega)]
    omega
  have e3 : bits .or .i64 ((2 ^ 8 * ((x 0 * 256 + x 1) * 256 + x 2) : Nat) : Int) (x 3 : Int) = (num4 x : Nat) := by
    rw [or_low ((x 0 * 256 + x 1) * 256 + x 2) (x 3) 8 _ rfl (by omega) (by omega) (by omega)]
    unfold num4
    omega
  show Ending.returned (.int .i64 (bits .or .i64 (bits .or .i64 (bits .or .i64 ((x 0 : Int) * 16777216) ((x 1 : Int) * 65536)) ((x 2 : Int) * 256)) (x 3 : Int))) = _
  rw [e1, e2, e3]
theorem Tryd.sizeIP (v : Int) (x : Nat → Nat) : (Tryd.prog.info? 24).map (·.size) = some (ipCells v x).size := by kernel_rfl
/-- the bytes of a number -/
def by4 (n : Nat) : Nat → Nat := fun i => if i < 4 then n / 256 ^ (3 - i) % 256 else 0
set_option maxHeartbeats 800000 in
set_option maxRecDepth 100000 in
theorem address_any (n : Nat) (w : World) (h : n < 4294967296) :
    Calls Tryd.prog 84 #[.int .i64 n] w fun e w' => e = .returned (.agg (ipCells 4 (by4 n))) ∧ Below w.heap.size w w' := by
  go_enter Tryd.func84, Tryd.ntmps84
  go_wp2
  have e0 : ((n : Int) / 16777216) = ((by4 n 0 : Nat) : Int) := by simp [by4]; omega
  have e1 : ((n : Int) / 65536 % 256) = ((by4 n 1 : Nat) : Int) := by simp [by4]
  have e2 : ((n : Int) / 256 % 256) = ((by4 n 2 : Nat) : Int) := by simp [by4]
  have e3 : ((n : Int) % 256) = ((by4 n 3 : Nat) : Int) := by simp [by4]
  have hc : #[Value.int .i64 4, .int .u8 ((n : Int) / 16777216), .int .u8 ((n : Int) / 65536 % 256), .int .u8 ((n : Int) / 256 % 256), .int .u8 ((n : Int) % 256), .int .u8 0, .int .u8 0, .int .u8 0, .int .u8 0, .int .u8 0, .int .u8 0, .int .u8 0, .int .u8 0, .int .u8 0, .int .u8 0, .int .u8 0, .int .u8 0] = ipCells 4 (by4 n) := by
    rw [e0, e1, e2, e3]; rfl
  refine bodyPost_ret (v := .agg (ipCells 4 (by4 n))) ?_ rfl ⟨rfl, (Below.refl _ _).alloc (Nat.le_refl _) _⟩
  refine results_cell_row rfl _ _ w.heap.size 24 (ipCells 4 (by4 n)) (0, 0) _ rfl ?_ Tryd.underlying24 rfl (Tryd.sizeIP 4 (by4 n))
  rw [← hc]
  exact heap_alloc_new _ _
def IpAt (w : World) (O : Nat) (v : Int) (x : Nat → Nat) : Prop := w.heap[O]? = some (.cells (ipCells v x) 24 (0, 0))
theorem by4_num (v : Int) (x : Nat → Nat) (h : ∀ i, i < 16 → x i < 256) : (v == 4 && same16 x (by4 (num4 x))) = I4.four v x := by
  have h0 := h 0 (by omega)
  have h1 := h 1 (by omega)
  have h2 := h 2 (by omega)
  have h3 := h 3 (by omega)
  rw [Bool.eq_iff_iff, I4.four_iff, Bool.and_eq_true, beq_iff_eq, same16_iff]
  refine and_congr_right (fun _ => ⟨fun hh i hi h4 => ?_, fun hh i hi => ?_⟩)
  · rw [hh i hi]; simp [by4]; omega
  · by_cases h4 : i < 4
    · have : i = 0 ∨ i = 1 ∨ i = 2 ∨ i = 3 := by omega
      rcases this with rfl | rfl | rfl | rfl <;> simp [by4, num4] <;> omega
    · rw [hh i hi (by omega)]; simp [by4]; omega
/-- a block that is loaded as a whole -/
theorem yields_box {ops : Array Oper} {o : Oper} {a : Act} {S : World → Prop} (ty : TypeId) (x : Operand) (ho : o.op = .load ty x) (p : Addr) (cs : Array Value) (hx : a.eval x = .pointer (some p)) (hw : Region.wanted o (yielded ops a.tmps) = true)
    (hS : ∀ w, S w → (loadVar ty p).run Tryd.prog w = .ok (.agg cs) w) : YieldsIf Tryd.prog ops S o (.agg cs) a := by
  refine .inl ⟨hw, fun w hb => ?_⟩
  unfold execOp
  simp only [ho, hx, Instr.loadAt, Instr.sureAddr, Sem.run_bind, Sem.run_pure, Result.andThen_ok, hS w hb]
set_option maxHeartbeats 800000 in
set_option maxRecDepth 100000 in
theorem isFour_any (V : Int) (x : Nat → Nat) (w : World) (h : ∀ i, i < 16 → x i < 256) :
    Calls Tryd.prog 86 #[.agg (ipCells V x)] w fun e w' => e = .returned (.bool (I4.four V x)) ∧ Below w.heap.size w w' := by
  obtain ⟨W, hW⟩ : ∃ W, W = w.alloc (.cells (ipCells V x) 24) := ⟨_, rfl⟩
  obtain ⟨O, hO⟩ : ∃ O, O = w.heap.size := ⟨_, rfl⟩
  have bel : Below w.heap.size w W := by rw [hW]; exact (Below.refl _ _).alloc (Nat.le_refl _) _
  have box : IpAt W O V x := by rw [hW, hO]; exact heap_alloc_new _ _
  have hx : num4 x < 4294967296 := by
    have h0 := h 0 (by omega)
    have h1 := h 1 (by omega)
    have h2 := h 2 (by omega)
    have h3 := h 3 (by omega)
    unfold num4; omega
  have HE := by4_num V x h
  obtain ⟨C, hC⟩ : ∃ C, C = ipCells V x := ⟨_, rfl⟩
  have HW : Hid (w.alloc (.cells C 24) = W) := by rw [hC]; exact hW.symm
  have HO : Hid (w.heap.size = O) := hO.symm
  rw [show #[Value.agg (ipCells V x)] = #[Value.agg C] from by rw [hC]]
  rw [← HE]
  have HC : Hid _ := hC
  have HX : Hid _ := hx
  have HH : Hid _ := h
  clear hW hC hO HE hx h
  go_enter Tryd.func86, Tryd.ntmps86
  go_upto_region 1 with fail
  rw [HW.out, HO.out]
  refine MixH.start (fun w' => IpAt w' O V x) (by kernel_rfl) ?_
  obtain ⟨wA, hwA⟩ : ∃ wA, wA = W.drew := ⟨_, rfl⟩
  have hS : IpAt wA O V x := by rw [hwA]; exact box
  have bel0 : Below w.heap.size w wA := by rw [hwA]; exact bel.drew
  rw [← hwA]
  clear hwA box bel HW
  refine MixH.take 5 0 _ (.agg (ipCells V x)) rfl (by kernel_rfl) (by kernel_rfl) (by kernel_rfl) (by kernel_rfl) (yields_box 24 (.tmp 1) rfl ⟨O, 0, none⟩ _ rfl rfl (fun w h => run_loadVar_row w O _ 24 _ _ _ h Tryd.underlying24 rfl (Tryd.sizeIP V x))) hS (fun a' ha => ?_)
  simp only [Act.put, List.setIfInBounds_toArray, List.set_cons_succ, List.set_cons_zero] at ha
  subst ha
  refine MixH.take 4 1 _ (.agg (ipCells V x)) rfl (by kernel_rfl) (by kernel_rfl) (by kernel_rfl) (by kernel_rfl) (yields_box 24 (.tmp 1) rfl ⟨O, 0, none⟩ _ rfl rfl (fun w h => run_loadVar_row w O _ 24 _ _ _ h Tryd.underlying24 rfl (Tryd.sizeIP V x))) hS (fun a' ha => ?_)
  simp only [Act.put, List.setIfInBounds_toArray, List.set_cons_succ, List.set_cons_zero] at ha
  subst ha
  refine MixH.one [false, false, true] 3 2 _ rfl rfl (by kernel_rfl) (by kernel_rfl) (fun K hK => ?_)
  simp only [Mix.pick]
  have Q1 : Hid _ := number_any V x wA HH.out
  go_wp2_with fail
  refine Calls.mono Q1.out ?_
  rintro e w1 ⟨rfl, hb1⟩
  replace hS : IpAt w1 O V x := (hb1.block O (Array.getElem?_eq_some_iff.1 hS).1).trans hS
  have bel1 := bthen bel0 hb1
  clear Q1 hb1 bel0
  go_wp2
  refine ⟨rfl, hK _ _ hS ?_⟩
  clear hK K
  refine MixH.one [false, false, false, true] 2 3 _ rfl rfl (by kernel_rfl) (by kernel_rfl) (fun K hK => ?_)
  simp only [Mix.pick]
  have Q1 : Hid _ := address_any (num4 x) w1 HX.out
  go_wp2_with fail
  refine Calls.mono Q1.out ?_
  rintro e w2 ⟨rfl, hb1⟩
  replace hS : IpAt w2 O V x := (hb1.block O (Array.getElem?_eq_some_iff.1 hS).1).trans hS
  have bel2 := bthen bel1 hb1
  clear Q1 hb1 bel1
  go_wp2
  refine ⟨rfl, hK _ _ hS ?_⟩
  clear hK K
  refine MixH.one [false, false, false, false, true] 1 4 _ rfl rfl (by kernel_rfl) (by kernel_rfl) (fun K hK => ?_)
  simp only [Mix.pick]
  refine wpList_eql_ip (.tmp 3) (.tmp 6) rfl V 4 x (by4 (num4 x)) rfl rfl rfl ?_
  go_wp2
  refine ⟨rfl, hK _ _ hS ?_⟩
  clear hK K
  refine MixH.takes [false, false, false, false, false, true] 0 (by kernel_rfl) (by kernel_rfl) (by decide) (by kernel_rfl) hS (fun K hK => ?_)
  simp only [Mix.pick]
  repeat (go_big_quiet_step (fail))
  refine wpQuiet_nil (hK _ ?_)
  clear hK K
  refine MixH.done (by kernel_rfl) ?_
  go_wp2
  (try simp only [Exit.inBlock, Exit.then])
  go_ret
  exact ⟨rfl, bel2⟩
end Go.Proofs.YtdinhgfkpjaipaaDoor
