/-
  A script of looks in memory, and the statements' upTo.
-/
import Derived.Test.YtebpaolniemfgabPlays
namespace Go.Proofs.Ytebpaolniemfgab
open Go.RowKit

/-- one look, as it lies in memory -/
structure OpV where
  kd : Int
  at' : Int
  n : Int
  ba : Option Addr
  bl : Nat
  bc : Nat
  bs : List Nat
  wa : Option Addr
  wl : Nat
  wc : Nat
  ws : List Int
  va : Option Addr
  vl : Nat
  vc : Nat
  vs : List Int
def OpV.cells (o : OpV) : List Value := [.int .i64 o.kd, .slice o.ba o.bl o.bc, .int .i64 o.at', .int .i64 o.n, .slice o.wa o.wl o.wc, .slice o.va o.vl o.vc]
/-- what its parts hold -/
structure OpV.ok (w : World) (o : OpV) : Prop where
  bl : o.bs.length = o.bl
  b : Seg .u8 w o.ba (toI o.bs)
  b256 : ∀ x ∈ o.bs, x < 256
  b2 : o.bl ≤ 1048576
  wl : o.ws.length = o.wl
  wsg : Seg .i64 w o.wa o.ws
  w2 : o.wl ≤ 1048576
  vl : o.vs.length = o.vl
  v : Seg .i64 w o.va o.vs
  v2 : o.vl ≤ 1048576
  bc : o.bl ≤ o.bc
  bc2 : o.bc ≤ 9223372036854775807
  ha : o.at' ≤ 9223372036854775807
  hn : o.n ≤ 9223372036854775807
theorem OpV.ok.old {w w' : World} {o : OpV} (h : o.ok w) (hb : Below w.heap.size w w') : o.ok w' :=
  ⟨h.bl, h.b.old hb, h.b256, h.b2, h.wl, h.wsg.old hb, h.w2, h.vl, h.v.old hb, h.v2, h.bc, h.bc2, h.ha, h.hn⟩
def Script (w : World) (a : Option Addr) (ops : List OpV) : Prop :=
  ops = [] ∨ ∃ b off, a = some ⟨b, off, none⟩ ∧ b < w.heap.size ∧ ∀ (i : Nat) (o : OpV), ops[i]? = some o → o.ok w ∧ ∀ j, w.cell? ⟨b, off + i * 6 + j, none⟩ = o.cells[j]? ∨ 6 ≤ j
theorem Script.old {w w' : World} {a : Option Addr} {ops : List OpV} (h : Script w a ops) (hb : Below w.heap.size w w') : Script w' a ops := by
  rcases h with h | ⟨b, off, ha, hlt, hc⟩
  · exact .inl h
  · refine .inr ⟨b, off, ha, by have := hb.size; omega, fun i o ho => ⟨(hc i o ho).1.old hb, fun j => ?_⟩⟩
    rw [hb.cell (p := ⟨b, off + i * 6 + j, none⟩) hlt]
    exact (hc i o ho).2 j

set_option maxRecDepth 100000 in
set_option maxHeartbeats 800000 in
theorem upTo_any (a : Option Addr) (cap : Nat) (lo hi : Int) (ops : List OpV) (w : World) (hs : Script w a ops) (hlen : ops.length ≤ 1048576)
    (HP : Hid (∀ (W : World) (o : OpV), o ∈ ops → lo ≤ o.kd → o.kd ≤ hi → o.ok W →
      Calls Try.prog 44 #[.agg #[.int .i64 o.kd, .slice o.ba o.bl o.bc, .int .i64 o.at', .int .i64 o.n, .slice o.wa o.wl o.wc, .slice o.va o.vl o.vc]] W fun e w' => e = .returned (.bool true) ∧ Below W.heap.size W w')) :
    Calls Try.prog 27 #[.slice a ops.length cap, .int .i64 lo, .int .i64 hi] w fun e w' => e = .returned (.bool true) ∧ Below w.heap.size w w' := by
  go_enter Try.func27, Try.ntmps27
  go_wp2
  go_loopw [7] (fun ix wr => ∃ k : Nat, k ≤ ops.length ∧ ix = .int .i64 k ∧ Below w.heap.size w wr) (fun ix _ => ops.length - (intOf ix).toNat)
  case atStart => exact ⟨0, Nat.zero_le _, rfl, Below.refl _ _⟩
  case round =>
    obtain ⟨k, hk, rfl, hbel⟩ := hrel
    by_cases hlt : k < ops.length
    · have hs1 := hs.old hbel
      rcases hs1 with hnil | ⟨b, off, rfl, hbl, hc⟩
      · exact absurd hlt (by rw [hnil]; simp)
      obtain ⟨o, ho⟩ : ∃ o, ops[k]? = some o := ⟨ops[k], by simp [hlt]⟩
      obtain ⟨hok, hcs⟩ := hc k o ho
      have hmem : o ∈ ops := List.mem_of_getElem? ho
      have q0 : wr.cell? ⟨b, off + k * 6, none⟩ = some (.int .i64 o.kd) := by
        rcases hcs 0 with h | h
        · rw [← Nat.add_zero (off + k * 6), h]; rfl
        · omega
      have q1 : wr.cell? ⟨b, off + k * 6 + 1, none⟩ = some (.slice o.ba o.bl o.bc) := by
        rcases hcs 1 with h | h
        · rw [h]; rfl
        · omega
      have q2 : wr.cell? ⟨b, off + k * 6 + 2, none⟩ = some (.int .i64 o.at') := by
        rcases hcs 2 with h | h
        · rw [h]; rfl
        · omega
      have q3 : wr.cell? ⟨b, off + k * 6 + 3, none⟩ = some (.int .i64 o.n) := by
        rcases hcs 3 with h | h
        · rw [h]; rfl
        · omega
      have q4 : wr.cell? ⟨b, off + k * 6 + 4, none⟩ = some (.slice o.wa o.wl o.wc) := by
        rcases hcs 4 with h | h
        · rw [h]; rfl
        · omega
      have q5 : wr.cell? ⟨b, off + k * 6 + 5, none⟩ = some (.slice o.va o.vl o.vc) := by
        rcases hcs 5 with h | h
        · rw [h]; rfl
        · omega
      clear hc hcs ho
      by_cases h1 : lo ≤ o.kd
      · by_cases h2 : o.kd ≤ hi
        · go_wp2_with fail
          refine Calls.mono (HP.out wr o hmem h1 h2 hok) ?_
          rintro e w1 ⟨rfl, hb1⟩
          have hB1 : Below w.heap.size w w1 := hbel.trans (hb1.mono hbel.size)
          clear hb1
          go_wp2
          go_roundw
          case rel => exact ⟨k + 1, by omega, by go_num, hB1⟩
          case measure => simp [intOf]; omega
        · have hd : decide (o.kd ≤ hi) = false := by simpa using h2
          go_wp2
          go_roundw
          case rel => exact ⟨k + 1, by omega, by go_num, hbel⟩
          case measure => simp [intOf]; omega
      · have hd : decide (lo ≤ o.kd) = false := by simpa using h1
        go_wp2
        go_roundw
        case rel => exact ⟨k + 1, by omega, by go_num, hbel⟩
        case measure => simp [intOf]; omega
    · go_wp2
      go_ret
      exact ⟨rfl, hbel⟩
end Go.Proofs.Ytebpaolniemfgab
