/-
  The port: Buffer, Release, Send.
-/
import Derived.Test.YtaicmpkgcppplaaPort3
namespace Go.Proofs.Ytaicmpkgcppplaa
open Go.RowKit

theorem PortAt.drew {w : World} {P gb gf gr gt : Nat} {s : PS} (h : PortAt w P gb gf gr gt s) : PortAt w.drew P gb gf gr gt s := h.ch (Ch.refl (fun _ => False) w).drew (fun _ _ => id)
theorem hE_zero {s : PS} {i : Int} (h : hE s i = 0) : ∃ k : Nat, i = (k : Int) ∧ k < s.pool ∧ s.pl k = 4 := by
  unfold hE at h
  split at h
  · cases h
  · split at h
    · rename_i h1 h2
      exact ⟨i.toNat, by omega, by omega, h2⟩
    · cases h
theorem hE_held {s : PS} {k : Nat} (hk : k < s.pool) (h4 : s.pl k = 4) : hE s (k : Int) = 0 := by
  unfold hE
  rw [if_neg (by omega), Int.toNat_natCast, if_pos h4]
set_option maxRecDepth 100000 in
set_option maxHeartbeats 800000 in
theorem Buffer_no (w : World) (P gb gf gr gt : Nat) (s : PS) (h : PortAt w P gb gf gr gt s) (i : Int) (he : hE s i ≠ 0) :
    Calls Try.prog 19 #[.pointer (some ⟨P, 0, none⟩), .int .i64 i] w fun e w' => e = .returned (.tuple #[.slice none 0 0, .int .i64 (hE s i)]) ∧ w = w' := by
  have HH : Hid _ := held_any w P gb gf gr gt s h i
  obtain ⟨v, hv⟩ : ∃ v, v = hE s i := ⟨_, rfl⟩
  rw [← hv] at he HH ⊢
  have hb : (v != 0) = true := by rw [bne_iff_ne]; exact he
  clear he hv h
  go_enter Try.func19, Try.ntmps19
  go_wp2_with fail
  refine Calls.mono HH.out ?_
  rintro e w' ⟨rfl, rfl⟩
  go_wp2
  go_ret2
  exact ⟨rfl, rfl⟩
set_option maxRecDepth 100000 in
set_option maxHeartbeats 800000 in
theorem Buffer_yes (w : World) (P gb gf gr gt : Nat) (s : PS) (h : PortAt w P gb gf gr gt s) (k : Nat) (hk : k < s.pool) (h4 : s.pl k = 4) :
    Calls Try.prog 19 #[.pointer (some ⟨P, 0, none⟩), .int .i64 k] w fun e w' => ∃ b, e = .returned (.tuple #[.slice (some ⟨b, 0, none⟩) s.size s.size, .int .i64 0]) ∧ Mem1 w P gb gf gr gt s k b w' := by
  have HH : Hid _ := held_any w P gb gf gr gt s h k
  rw [hE_held hk h4] at HH
  have HW : Hid _ := window_any w P gb gf gr gt s h k hk s.size (Nat.le_refl _)
  have hS := h.cS
  clear h4 hk h
  go_enter Try.func19, Try.ntmps19
  go_wp2_with fail
  refine Calls.mono HH.out ?_
  rintro e w' ⟨rfl, rfl⟩
  go_wp2_with fail
  refine Calls.mono HW.out ?_
  rintro e w' ⟨b, rfl, hm⟩
  have HF : Hid _ := hm
  clear hm HW HH
  go_wp2
  go_ret2
  exact ⟨b, rfl, HF.out⟩
set_option maxRecDepth 100000 in
set_option maxHeartbeats 800000 in
theorem Release_no (w : World) (P gb gf gr gt : Nat) (s : PS) (h : PortAt w P gb gf gr gt s) (i : Int) (he : hE s i ≠ 0) :
    Calls Try.prog 16 #[.pointer (some ⟨P, 0, none⟩), .int .i64 i] w fun e w' => e = .returned (.int .i64 (hE s i)) ∧ w = w' := by
  have HH : Hid _ := held_any w P gb gf gr gt s h i
  obtain ⟨v, hv⟩ : ∃ v, v = hE s i := ⟨_, rfl⟩
  rw [← hv] at he HH ⊢
  have hb : (v != 0) = true := by rw [bne_iff_ne]; exact he
  clear he hv h
  go_enter Try.func16, Try.ntmps16
  go_wp2_with fail
  refine Calls.mono HH.out ?_
  rintro e w' ⟨rfl, rfl⟩
  go_wp2
  go_ret
  exact ⟨rfl, rfl⟩
set_option maxRecDepth 100000 in
set_option maxHeartbeats 800000 in
theorem Release_yes (w : World) (P gb gf gr gt : Nat) (s : PS) (h : PortAt w P gb gf gr gt s) (k : Nat) (hk : k < s.pool) (h4 : s.pl k = 4) (hf : s.fr.length < s.pool) :
    Calls Try.prog 16 #[.pointer (some ⟨P, 0, none⟩), .int .i64 k] w fun e w' => e = .returned (.int .i64 0) ∧ PortAt w' P gb gf gr gt { s with pl := updF s.pl k 1, fr := s.fr ++ [k] } ∧ Ch (fun q => q = P ∨ q = gb ∨ q = gf) w w' := by
  have HH : Hid _ := held_any w P gb gf gr gt s h k
  rw [hE_held hk h4] at HH
  have HL : Hid _ := letGo_any w P gb gf gr gt s h k hk hf
  clear h4 hk h hf
  go_enter Try.func16, Try.ntmps16
  go_wp2_with fail
  refine Calls.mono HH.out ?_
  rintro e w' ⟨rfl, rfl⟩
  go_wp2_with fail
  refine Calls.mono HL.out ?_
  rintro e w' ⟨rfl, hm⟩
  have HF : Hid _ := hm
  clear hm HL HH
  go_wp2
  go_ret
  exact ⟨rfl, HF.out⟩
/-- what Send answers -/
def sE (s : PS) (i n : Int) : Int := if n < 0 ∨ (s.size : Int) < n then 1 else if hE s i = 0 then (if s.tx.length = s.txn then 32 else 0) else hE s i
set_option maxRecDepth 100000 in
set_option maxHeartbeats 800000 in
theorem Send_no (w : World) (P gb gf gr gt : Nat) (s : PS) (h : PortAt w P gb gf gr gt s) (i n : Int) (he : sE s i n ≠ 0) :
    Calls Try.prog 15 #[.pointer (some ⟨P, 0, none⟩), .int .i64 i, .int .i64 n] w fun e w' => e = .returned (.int .i64 (sE s i n)) ∧ Below w.heap.size w w' := by
  have HW : Hid _ := within_any n 0 (s.size : Int) w
  have hS := h.cS
  have hs2 := h.sz2
  by_cases hr : n < 0 ∨ (s.size : Int) < n
  · have e : sE s i n = 1 := if_pos hr
    rw [e]
    have hd : decide (0 ≤ n ∧ n ≤ (s.size : Int)) = false := decide_eq_false (by omega)
    rw [hd] at HW
    clear e he hr hd h
    go_enter Try.func15, Try.ntmps15
    go_wp2_with fail
    refine Calls.mono HW.out ?_
    rintro e w' ⟨rfl, rfl⟩
    go_wp2
    go_ret
    exact ⟨rfl, Below.refl _ _⟩
  · have hd : decide (0 ≤ n ∧ n ≤ (s.size : Int)) = true := decide_eq_true (by omega)
    rw [hd] at HW
    have HH : Hid _ := held_any w P gb gf gr gt s h i
    by_cases h0 : hE s i = 0
    · have e : sE s i n = if s.tx.length = s.txn then 32 else 0 := by unfold sE; rw [if_neg hr, if_pos h0]
      have ht : s.tx.length = s.txn := by
        by_cases q : s.tx.length = s.txn
        · exact q
        · exact absurd (e.trans (if_neg q)) he
      rw [e, if_pos ht]
      rw [h0] at HH
      obtain ⟨f, S, l⟩ := h.lt
      have HT : Hid _ := full_line w P 9 gt s.txn s.tx f S l
      rw [show ((s.tx.length : Int) == (s.txn : Int)) = true from by rw [ht]; simp] at HT
      clear e he hr hd h h0 ht l
      go_enter Try.func15, Try.ntmps15
      go_wp2_with fail
      refine Calls.mono HW.out ?_
      rintro e w' ⟨rfl, rfl⟩
      go_wp2_with fail
      refine Calls.mono HH.out ?_
      rintro e w' ⟨rfl, rfl⟩
      go_wp2_with fail
      refine Calls.mono HT.out ?_
      rintro e w' ⟨rfl, hb⟩
      have HB : Hid _ := hb
      clear hb
      go_wp2
      go_ret
      exact ⟨rfl, HB.out⟩
    · have e : sE s i n = hE s i := by unfold sE; rw [if_neg hr, if_neg h0]
      rw [e]
      obtain ⟨v, hv⟩ : ∃ v, v = hE s i := ⟨_, rfl⟩
      rw [← hv] at h0 HH ⊢
      have hb : (v != 0) = true := by rw [bne_iff_ne]; exact h0
      clear e he hr hd h h0 hv
      go_enter Try.func15, Try.ntmps15
      go_wp2_with fail
      refine Calls.mono HW.out ?_
      rintro e w' ⟨rfl, rfl⟩
      go_wp2_with fail
      refine Calls.mono HH.out ?_
      rintro e w' ⟨rfl, rfl⟩
      go_wp2
      go_ret
      exact ⟨rfl, Below.refl _ _⟩
set_option maxRecDepth 100000 in
set_option maxHeartbeats 800000 in
theorem Send_yes (w : World) (P gb gf gr gt : Nat) (s : PS) (h : PortAt w P gb gf gr gt s) (k n : Nat) (hk : k < s.pool) (h4 : s.pl k = 4) (hn : n ≤ s.size) (hf : s.tx.length < s.txn) :
    Calls Try.prog 15 #[.pointer (some ⟨P, 0, none⟩), .int .i64 k, .int .i64 n] w fun e w' => e = .returned (.int .i64 0) ∧ PortAt w' P gb gf gr gt { s with pl := updF s.pl k 5, ln := updF s.ln k n, tx := s.tx ++ [k] } ∧ Ch (fun q => q = P ∨ q = gb ∨ q = gt) w w' := by
  have HW : Hid _ := within_any (n : Int) 0 (s.size : Int) w
  rw [show decide ((0 : Int) ≤ (n : Int) ∧ (n : Int) ≤ (s.size : Int)) = true from decide_eq_true (by omega)] at HW
  have HH : Hid _ := held_any w P gb gf gr gt s h k
  rw [hE_held hk h4] at HH
  have hS := h.cS
  have hs2 := h.sz2
  have hp2 := h.p2
  obtain ⟨f, S, l⟩ := h.lt
  have HT : Hid _ := full_line w P 9 gt s.txn s.tx f S l
  rw [show ((s.tx.length : Int) == (s.txn : Int)) = false from beq_eq_false_iff_ne.2 (by omega)] at HT
  have HP : Hid _ := h
  have HL : Hid _ := hf
  clear h h4 l hf
  go_enter Try.func15, Try.ntmps15
  go_wp2_with fail
  refine Calls.mono HW.out ?_
  rintro e w' ⟨rfl, rfl⟩
  go_wp2_with fail
  refine Calls.mono HH.out ?_
  rintro e w' ⟨rfl, rfl⟩
  go_wp2_with fail
  refine Calls.mono HT.out ?_
  rintro e w1 ⟨rfl, hb⟩
  have h1 := HP.out.below hb
  have hB := h1.cB
  have c0 := h1.b0 k hk
  have c1 := h1.b1 k hk
  have z0 := h1.bz (k * 3)
  have z1 := h1.bz (k * 3 + 1)
  have hd0 : w1.drew.cell? ⟨gb, k * 3, none⟩ = some (.int .i64 (s.pl k)) := c0
  have HB : Hid _ := hb
  have H1 : Hid _ := h1
  clear hb h1 HW HH HT
  go_wp2
  try go_region
  all_goals go_wp2_with fail
  have h2 := ((H1.out.setPl k 5 hk).setLn k n hk).drew
  obtain ⟨f', S', l'⟩ := h2.lt
  refine Calls.mono (join_line _ P 9 gt s.txn k s.tx f' S' l' HL.out) ?_
  rintro e w2 ⟨rfl, ⟨S2, l2⟩, k2, ho⟩
  have HF : Hid _ := h2.txSet k2 l2 ho
  have HC : Hid (Ch (fun q => q = P ∨ q = gb ∨ q = gt) w w2) := ((((Ch.ofBelow (S := fun q => q = P ∨ q = gb ∨ q = gt) HB.out).set ⟨gb, k * 3, none⟩ (.int .i64 5) (.inr (.inl rfl))).set ⟨gb, k * 3 + 1, none⟩ (.int .i64 (n : Int)) (.inr (.inl rfl))).drew).trans k2 (fun _ _ e => e.elim .inl (fun e => .inr (.inr e)))
  clear h2 l' l2 k2 ho H1 HB HP
  go_wp2
  go_ret
  exact ⟨rfl, HF.out, HC.out⟩
end Go.Proofs.Ytaicmpkgcppplaa
