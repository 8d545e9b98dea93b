/-
  optionData; Options.
-/
import Derived.Test.YtfoeepbndfnifaaDoorI4Cur
import Derived.Test.YtfoeepbndfnifaaDoorPSplit
import Derived.Test.YtfoeepbndfnifaaDoorI4Spec
import Derived.Laws.Tables
namespace Go.Proofs.YtfoeepbndfnifaaDoor
open Go.RowKit
open I4 (Op4 scan)

theorem cutA_zero {k : IntKind} {w : World} {a : Option Addr} {zs : List Int} (h : Seg k w a zs) : cutA a 0 zs.length = a := by
  unfold cutA
  split
  · rfl
  · rename_i h0
    rcases h with rfl | ⟨b, off, rfl, _⟩
    · simp at h0
    · simp [Addr.add]
theorem seg_grown {k : IntKind} {w w' : World} {a : Option Addr} {zs : List Int} {B : Nat} (h : Seg k w a zs) (g : w.grownBy w' (some B)) (hne : ∀ x, zs ≠ [] → a = some x → x.block ≠ B) : Seg k w' a zs :=
  (Ch.ofGrown g).seg h (fun x h0 hx e => hne x h0 hx (by simpa using e.symm))
theorem uE_one (len p : Nat) : uE len p 1 = if p < len then 0 else 10 := by
  unfold uE
  rw [if_neg (by omega)]
  by_cases h : p < len
  · rw [if_neg (by omega), if_pos h]
  · rw [if_pos (by omega), if_neg h]
theorem uV_one (bs : List Nat) (p : Nat) (h : p < bs.length) : uV bs p 1 = ((bs.getD p 0 : Nat) : Int) := by
  unfold uV
  rw [uE_one, if_pos h, if_pos rfl]
  have : (bs.drop (p : Int).toNat).take (1 : Int).toNat = [bs.getD p 0] := by
    have e : (p : Int).toNat = p := by omega
    rw [e, show (1 : Int).toNat = 1 from rfl, List.drop_eq_getElem_cons h, List.take_succ_cons, List.take_zero]
    simp [List.getD, h]
  rw [this]
  simp [M.numB]
theorem curByte_ok (B : Nat) (a : Option Addr) (p : Nat) (bs : List Nat) (w : World) (h : Cur w B a bs.length p) (hb : Seg .u8 w a (toI bs)) (h256 : ∀ x ∈ bs, x < 256) (h3 : bs.length ≤ 1048576) (hp : p < bs.length) :
    Calls Tryd.prog 65 #[.pointer (some ⟨B, 0, none⟩), .int .i64 1] w fun e w' => e = .returned (.tuple #[.int .u64 ((bs.getD p 0 : Nat) : Int), .int .i64 0]) ∧ Cur w' B a bs.length (p + 1) ∧ w.grownBy w' (some B) := by
  have := curUint_total B a p 1 bs w h hb h256 h3 (by omega)
  rw [uV_one bs p hp, uE_one, if_pos hp] at this
  exact this
theorem curByte_no (B : Nat) (a : Option Addr) (p : Nat) (bs : List Nat) (w : World) (h : Cur w B a bs.length p) (hb : Seg .u8 w a (toI bs)) (h256 : ∀ x ∈ bs, x < 256) (h3 : bs.length ≤ 1048576) (hp : p = bs.length) :
    Calls Tryd.prog 65 #[.pointer (some ⟨B, 0, none⟩), .int .i64 1] w fun e w' => e = .returned (.tuple #[.int .u64 0, .int .i64 10]) ∧ w.grownBy w' (some B) := by
  have := curUint_total B a p 1 bs w h hb h256 h3 (by omega)
  have e : uV bs p 1 = 0 := by unfold uV; rw [uE_one, if_neg (by omega)]
  rw [e, uE_one, if_neg (by omega)] at this
  exact this.mono (fun e w' h => ⟨h.1, h.2.2⟩)
set_option maxHeartbeats 800000 in
set_option maxRecDepth 100000 in
theorem takeData_ok (B : Nat) (a : Option Addr) (p n : Nat) (bs : List Nat) (w : World) (h : Cur w B a bs.length p) (hb : Seg .u8 w a (toI bs)) (h256 : ∀ x ∈ bs, x < 256) (h3 : bs.length ≤ 1048576) (hp : p < bs.length) (hn : bs.getD p 0 = n + 2) (hin : p + 1 + n ≤ bs.length) :
    Calls Tryd.prog 66 #[.pointer (some ⟨B, 0, none⟩)] w fun e w' => e = .returned (.tuple #[.slice (cutA a (p + 1) n) n n, .bool true]) ∧ Cur w' B a bs.length (p + 1 + n) ∧ w.grownBy w' (some B) := by
  have Q1 : Hid _ := curByte_ok B a p bs w h hb h256 h3 hp
  rw [hn] at Q1
  obtain ⟨L, hL⟩ : ∃ L, L = bs.length := ⟨_, rfl⟩
  rw [← hL] at Q1 hin h3 ⊢
  have HI : Hid _ := hin
  have HL3 : Hid _ := h3
  have hx2 := I4.getD_lt bs h256 p
  rw [hn] at hx2
  obtain ⟨m, hm⟩ : ∃ m, m = n + 2 := ⟨_, rfl⟩
  rw [← hm] at Q1 hx2
  have w2 : IntKind.i64.wrap ((m : Int) - 2) = (m : Int) - 2 := by rw [IntKind.wrap_i64]; omega
  have n64 : IntKind.i64.wrap ((m : Nat) : Int) = (m : Int) := by rw [IntKind.wrap_i64]; omega
  have c2 : ¬ ((m : Int) < 2) := by omega
  have E2 : Hid ((m : Int) - 2 = (n : Int)) := by show _ = _; omega
  clear hL h hb h256 hp hn hin h3 hm
  go_enter Tryd.func66, Tryd.ntmps66
  go_wp2_with fail
  refine Calls.mono Q1.out ?_
  rintro e w1 ⟨rfl, hc1, hg1⟩
  have Q2 : Hid _ := curWindow_ok B a L (p + 1) n w1 hc1 HI.out (by have := HL3.out; omega)
  clear Q1 hc1
  go_wp2_with fail
  rw [E2.out]
  refine Calls.mono Q2.out ?_
  rintro e w2 ⟨rfl, hc2, hg2⟩
  have hg := gtrans hg1 hg2
  clear Q2 hg1 hg2
  go_wp2
  go_ret2
  exact ⟨rfl, hc2, hg⟩
set_option maxHeartbeats 800000 in
set_option maxRecDepth 100000 in
theorem takeData_no (B : Nat) (a : Option Addr) (p : Nat) (bs : List Nat) (w : World) (h : Cur w B a bs.length p) (hb : Seg .u8 w a (toI bs)) (h256 : ∀ x ∈ bs, x < 256) (h3 : bs.length ≤ 1048576) (hp : p ≤ bs.length) (hno : p = bs.length ∨ bs.getD p 0 < 2 ∨ bs.length + 1 < p + bs.getD p 0) :
    Calls Tryd.prog 66 #[.pointer (some ⟨B, 0, none⟩)] w fun e w' => e = .returned (.tuple #[.slice none 0 0, .bool false]) ∧ w.grownBy w' (some B) := by
  by_cases h0 : p = bs.length
  · have Q1 : Hid _ := curByte_no B a p bs w h hb h256 h3 h0
    clear h hb h256 hp hno h3 h0
    go_enter Tryd.func66, Tryd.ntmps66
    go_wp2_with fail
    refine Calls.mono Q1.out ?_
    rintro e w1 ⟨rfl, hg1⟩
    go_wp2
    go_ret2
    exact ⟨rfl, hg1⟩
  · have Q1 : Hid _ := curByte_ok B a p bs w h hb h256 h3 (by omega)
    obtain ⟨x, hx⟩ : ∃ x, x = bs.getD p 0 := ⟨_, rfl⟩
    have hx2 := I4.getD_lt bs h256 p
    rw [← hx] at Q1 hno hx2
    obtain ⟨L, hL⟩ : ∃ L, L = bs.length := ⟨_, rfl⟩
    rw [← hL] at Q1 hno h3 hp h0
    clear hL h hb h256 hx
    by_cases h1 : x < 2
    · have c2 : ((x : Int) < 2) := by omega
      clear hno h1 h0 hp h3
      go_enter Tryd.func66, Tryd.ntmps66
      go_wp2_with fail
      refine Calls.mono Q1.out ?_
      rintro e w1 ⟨rfl, hc1, hg1⟩
      go_wp2
      go_ret2
      exact ⟨rfl, hg1⟩
    · have c2 : ¬ ((x : Int) < 2) := by omega
      have n64 : IntKind.i64.wrap ((x : Nat) : Int) = (x : Int) := by rw [IntKind.wrap_i64]; omega
      have w2 : IntKind.i64.wrap ((x : Int) - 2) = (x : Int) - 2 := by rw [IntKind.wrap_i64]; omega
      have HH : Hid ((x : Int) - 2 < 0 ∨ (L : Int) < ((p + 1 : Nat) : Int) + ((x : Int) - 2)) := .inr (by omega)
      have HP : Hid (p + 1 ≤ L) := by show _ ≤ _; omega
      have HL3 : Hid (L ≤ 9223372036854775807) := by show _ ≤ _; omega
      have HX : Hid ((x : Int) - 2 ≤ 9223372036854775807) := by show _ ≤ _; omega
      have HN : Hid ((if (x : Int) - 2 < 0 then (1 : Int) else 10) = 10) := if_neg (by omega)
      clear hno h1 h0 hp h3
      go_enter Tryd.func66, Tryd.ntmps66
      go_wp2_with fail
      refine Calls.mono Q1.out ?_
      rintro e w1 ⟨rfl, hc1, hg1⟩
      have Q2 : Hid _ := curWindow_bad B a L (p + 1) ((x : Int) - 2) w1 hc1 HP.out HL3.out HX.out HH.out
      rw [HN.out] at Q2
      clear Q1 hc1
      go_wp2_with fail
      refine Calls.mono Q2.out ?_
      rintro e w2 ⟨rfl, hb2⟩
      have hg := gtrans hg1 (grown_below hb2 (some B))
      clear Q2 hg1 hb2
      go_wp2
      go_ret2
      exact ⟨rfl, hg⟩
end Go.Proofs.YtfoeepbndfnifaaDoor
