/-
  Layer 18: QueueMakes.
-/
import Derived.Test.YtcdbhkihbfjedaaQP4
namespace Go.Proofs.Ytcdbhkihbfjedaa
open Go.RowKit Go.ChangeShapes Go.WideShapes

theorem c0s_at (ls : List LI) (k : Nat) : (cAt (c0s ls) k).L = [] := by
  cases h : (c0s ls)[k]? with
  | none => simp [cAt, List.getD, h, cz]
  | some c =>
    rw [cAt_some h]
    unfold c0s at h
    rw [List.getElem?_map] at h
    cases h2 : ls[k]? with
    | none => rw [h2] at h; cases h
    | some l => rw [h2] at h; cases h; rfl
theorem c0s_any (ls : List LI) : anyR (c0s ls) = false := by
  cases h : anyR (c0s ls) with
  | false => rfl
  | true =>
    obtain ⟨k, _, hr⟩ := any_some h
    unfold CL.rdy at hr
    rw [c0s_at] at hr
    cases hr
theorem c0s_len (ls : List LI) (i : Int) : lenQ (c0s ls) i = 0 := by
  unfold lenQ
  rw [c0s_at]
  split <;> rfl
theorem c0s_byt (ls : List LI) (i : Int) : bytQ (c0s ls) i = 0 := by
  unfold bytQ
  rw [c0s_at]
  split <;> rfl
theorem c0s_pop (ls : List LI) : popQ (c0s ls) tz = c0s ls := by
  unfold popQ
  rw [c0s_any]
  rfl
set_option maxHeartbeats 1600000 in
set_option maxRecDepth 100000 in
theorem queueMakes.walk (w : World) (a : Option Addr) (n cap : Nat) (ls : List LI) (hl : ls.length = n) (hs : ListG 5 liL LiW w a ls) (hn : n ≤ 1048576) : Calls Try.prog 8 #[.slice a n cap] w fun e w' => e = .returned (.bool true) ∧ Below w.heap.size w w' := by
  have HL : Hid (ls.length = n ∧ ListG 5 liL LiW w a ls ∧ n ≤ 1048576) := ⟨hl, hs, hn⟩
  clear hl hs hn
  go_enter Try.func8, Try.ntmps8
  go_wp2_with fail
  refine Calls.mono (started_any w) ?_
  rintro e1 w1 ⟨rfl, b1⟩
  have H1 : Hid (Below w.heap.size w w1) := b1
  have QM : Hid _ := made_any a n cap ls w1 HL.out.1 (HL.out.2.1.old b1) (by have h1 := HL.out.2.2; omega)
  clear b1
  obtain ⟨l1, hl1⟩ : ∃ l1, qls ls = l1 := ⟨_, rfl⟩
  rw [hl1] at QM
  clear hl1
  go_wp2_with fail
  refine Calls.mono QM.out ?_
  rintro e2 w2 ⟨P, G, u, rfl, q2, a2, b2, hP, hG⟩
  have H2 : Hid (Q1 w P G (c0s l1) tz w2) := by
    have hs := H1.out.size
    exact ⟨l1.map mk, csOf_mk _, q2, bthen H1.out b2, mk_out (by omega) (by omega)⟩
  clear q2 a2 b2 hP hG QM
  go_upto_region 3 with (first | (refine wpList_nil_sdv rfl rfl ?_; intro B1 X hB hX bX) | (refine wpList_store_sdv (.tmp 4) (.tmp 13) rfl rfl B1 sz0 ⟨some ⟨P, 0, none⟩, u⟩ rfl rfl hX rfl ?_; intro w3 h9 k9))
  have H3 : Hid (SdvAt w3 B1 ⟨some ⟨P, 0, none⟩, u⟩ ∧ Q1 w P G (c0s l1) tz w3) := by
    have g1 := hB.out
    have g2 := H2.out.bel.size
    exact ⟨h9, (und1 w P G).ch (H2.out.below bX) k9 (by omega) hX (by decide) (by decide) (by decide)⟩
  clear hB hX bX h9 k9 H2 H1
  have c0 : w3.cell? ⟨B1, 0, none⟩ = some (.pointer (some ⟨P, 0, none⟩)) := H3.out.1.ptr
  have QL : Hid _ := H3.out.2.pop
  rw [c0s_any, c0s_pop] at QL
  obtain ⟨pn, hpn⟩ : ∃ pn, popN (c0s l1) tz = pn := ⟨_, rfl⟩
  obtain ⟨pc, hpc⟩ : ∃ pc, popC (c0s l1) tz = pc := ⟨_, rfl⟩
  rw [hpn, hpc] at QL
  clear hpn hpc
  go_wp2_with fail
  refine Calls.mono QL.out ?_
  rintro e4 w4 ⟨rfl, q1, b1⟩
  have H4 : Hid (SdvAt w4 B1 ⟨some ⟨P, 0, none⟩, u⟩ ∧ Q1 w P G (c0s l1) (popT (c0s l1) tz) w4) := ⟨H3.out.1.kp b1, q1⟩
  clear q1 b1 QL c0
  have c0 : w4.cell? ⟨B1, 0, none⟩ = some (.pointer (some ⟨P, 0, none⟩)) := H4.out.1.ptr
  have QL : Hid _ := H4.out.2.len (0)
  rw [c0s_len l1 (0)] at QL
  go_wp2_with fail
  refine Calls.mono QL.out ?_
  rintro e5 w5 ⟨rfl, q1, b1⟩
  have H5 : Hid (SdvAt w5 B1 ⟨some ⟨P, 0, none⟩, u⟩ ∧ Q1 w P G (c0s l1) (popT (c0s l1) tz) w5) := ⟨H4.out.1.below b1, q1⟩
  clear q1 b1 QL c0
  have c0 : w5.cell? ⟨B1, 0, none⟩ = some (.pointer (some ⟨P, 0, none⟩)) := H5.out.1.ptr
  have QL : Hid _ := H5.out.2.bytes (0)
  rw [c0s_byt l1 (0)] at QL
  go_wp2_with fail
  refine Calls.mono QL.out ?_
  rintro e6 w6 ⟨rfl, q1, b1⟩
  have H6 : Hid (SdvAt w6 B1 ⟨some ⟨P, 0, none⟩, u⟩ ∧ Q1 w P G (c0s l1) (popT (c0s l1) tz) w6) := ⟨H5.out.1.below b1, q1⟩
  clear q1 b1 QL c0
  have c0 : w6.cell? ⟨B1, 0, none⟩ = some (.pointer (some ⟨P, 0, none⟩)) := H6.out.1.ptr
  have QL : Hid _ := H6.out.2.len (-1)
  rw [c0s_len l1 (-1)] at QL
  go_wp2_with fail
  refine Calls.mono QL.out ?_
  rintro e7 w7 ⟨rfl, q1, b1⟩
  have H7 : Hid (SdvAt w7 B1 ⟨some ⟨P, 0, none⟩, u⟩ ∧ Q1 w P G (c0s l1) (popT (c0s l1) tz) w7) := ⟨H6.out.1.below b1, q1⟩
  clear q1 b1 QL c0
  have c0 : w7.cell? ⟨B1, 0, none⟩ = some (.pointer (some ⟨P, 0, none⟩)) := H7.out.1.ptr
  have QL : Hid _ := H7.out.2.bytes (99)
  rw [c0s_byt l1 (99)] at QL
  go_wp2_with fail
  refine Calls.mono QL.out ?_
  rintro e8 w8 ⟨rfl, q1, b1⟩
  have H8 : Hid (SdvAt w8 B1 ⟨some ⟨P, 0, none⟩, u⟩ ∧ Q1 w P G (c0s l1) (popT (c0s l1) tz) w8) := ⟨H7.out.1.below b1, q1⟩
  clear q1 b1 QL c0
  go_wp2_with fail
  go_ret
  exact ⟨rfl, H8.out.2.bel⟩
end Go.Proofs.Ytcdbhkihbfjedaa
