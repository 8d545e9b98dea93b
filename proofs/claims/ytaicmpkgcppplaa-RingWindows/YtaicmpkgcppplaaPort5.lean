/-
  The port: Poll.
-/
import Derived.Test.YtaicmpkgcppplaaPort4
import Derived.OwnWalk
namespace Go.Proofs.Ytaicmpkgcppplaa
open Go.RowKit

set_option maxRecDepth 100000 in
set_option maxHeartbeats 800000 in
theorem Poll_no (w : World) (P gb gf gr gt : Nat) (s : PS) (h : PortAt w P gb gf gr gt s) (hf : s.filled = 0) :
    Calls Try.prog 13 #[.pointer (some ⟨P, 0, none⟩)] w fun e w' => e = .returned (.tuple #[.int .i64 0, .slice none 0 0, .bool false]) ∧ w = w' := by
  have hF := h.cF
  rw [hf] at hF
  clear h hf
  go_enter Try.func13, Try.ntmps13
  go_wp2
  go_ret3
  exact ⟨rfl, rfl⟩
/-- the port behind a Poll -/
def PS.polled (s : PS) (i b : Nat) (rest : List Nat) (m : Nat) : PS := { s with rx := rest, filled := m, pl := updF s.pl i 4, bb := updF s.bb i (some b) }
set_option maxRecDepth 100000 in
set_option maxHeartbeats 800000 in
theorem Poll_yes (w : World) (P gb gf gr gt : Nat) (s : PS) (h : PortAt w P gb gf gr gt s) (m i : Nat) (rest : List Nat) (hm : s.filled = m + 1) (hm2 : m ≤ 100000) (hx : s.rx = i :: rest) (hi : i < s.pool) (hln : s.ln i ≤ s.size) :
    Calls Try.prog 13 #[.pointer (some ⟨P, 0, none⟩)] w fun e w' => ∃ b, e = .returned (.tuple #[.int .i64 i, .slice (some ⟨b, 0, none⟩) (s.ln i) (s.ln i), .bool true]) ∧
      PortAt w' P gb gf gr gt (s.polled i b rest m) ∧ Ch (fun q => q = P ∨ q = gb) w w' ∧ (s.bb i = some b ∨ (s.bb i = none ∧ w.heap.size ≤ b)) := by
  have hF := h.cF
  rw [hm] at hF
  have hb : (((m + 1 : Nat) : Int) == 0) = false := beq_eq_false_iff_ne.2 (by omega)
  obtain ⟨f, S, l⟩ := h.lr
  rw [hx] at l
  have HL : Hid _ := leave_line w P 5 gr s.rxn i rest f S l
  have HP : Hid _ := h
  have HI : Hid _ := hi
  have HN : Hid _ := hln
  have hp2 := h.p2
  have HX : Hid _ := hm
  clear h l hx hln hm
  go_enter Try.func13, Try.ntmps13
  go_wp2_with fail
  refine Calls.mono HL.out ?_
  rintro e w1 ⟨rfl, l1, k1, ho⟩
  have h1 := HP.out.rxSet (k1.mono (fun _ _ e => .inl e)) l1 ho
  have hc8 := h1.cF
  simp only [HX.out] at hc8
  have f8 := h1.fz 8
  have h2 := h1.setFilled m
  have hB2 := h2.cB
  have c2 := h2.b0 i hi
  have z2 := h2.bz (i * 3)
  have h3 : PortAt ((w1.setCell ⟨P, 8, none⟩ (.int .i64 (m : Int))).setCell ⟨gb, i * 3, none⟩ (.int .i64 4)) P gb gf gr gt { s with rx := rest, filled := m, pl := updF s.pl i 4 } := h2.setPl i 4 hi
  have hB3 := h3.cB
  have c3 := h3.b1 i hi
  simp only at hB2 c2 hB3 c3
  have wq : IntKind.i64.wrap (((m + 1 : Nat) : Int) - 1) = (m : Int) := by rw [i64_small _ (by omega) (by omega)]; omega
  have wq2 : ((m + 1 : Nat) : Int) - 1 = (m : Int) := by omega
  have HW : Hid _ := window_any _ P gb gf gr gt _ h3 i hi (s.ln i) HN.out
  have HC : Hid (Ch (fun q => q = P ∨ q = gb) w ((w1.setCell ⟨P, 8, none⟩ (.int .i64 (m : Int))).setCell ⟨gb, i * 3, none⟩ (.int .i64 4))) := ((k1.mono (fun _ _ e => .inl e)).set _ _ (.inl rfl)).set _ _ (.inr rfl)
  clear h1 h2 h3 k1 l1 ho HL HP
  go_wp2_with fail
  refine Calls.mono HW.out ?_
  rintro e w2 ⟨b, rfl, hm⟩
  have HM : Hid _ := hm
  have hs1 : w.heap.size ≤ ((w1.setCell ⟨P, 8, none⟩ (.int .i64 (m : Int))).setCell ⟨gb, i * 3, none⟩ (.int .i64 4)).heap.size := HC.out.size
  have HS : Hid _ := hs1
  clear hm HW hs1
  go_wp2
  go_ret3
  exact ⟨b, rfl, HM.out.1, HC.out.trans HM.out.2.1 (fun _ _ e => .inr e), HM.out.2.2.imp id (fun e => ⟨e.1, Nat.le_trans HS.out e.2⟩)⟩
end Go.Proofs.Ytaicmpkgcppplaa
