/-
  Layer 4: addr.reader: ended, wrong, end, refuse, stands, skip; digit.
-/
import Derived.Test.YteldiggaooeeeaaGreatDoorAdSh
import Derived.Test.YteldiggaooeeeaaGreatDoorAdS
import Derived.Deep.CutBlock
import Derived.Deep.DeepCutAuto
import Derived.Deep.RegionWith
namespace Go.Proofs.YteldiggaooeeeaaGreatDoor
open Go.RowKit

def rdC (s : ByteArray) (p : Nat) : Array Value := #[.string s, .int .i64 (p : Nat)]
def RdAt (w : World) (R : Nat) (s : ByteArray) (p : Nat) : Prop := w.heap[R]? = some (.cells (rdC s p) 45 (0, 0))
section
variable {w : World} {R : Nat} {s : ByteArray} {p : Nat} (k : RdAt w R s p)
include k
theorem RdAt.lt : R < w.heap.size := (Array.getElem?_eq_some_iff.1 k).1
theorem RdAt.cell (i : Nat) : w.cell? ⟨R, i, none⟩ = (rdC s p)[i]? := by unfold RdAt at k; simp [World.cell?, k]
theorem RdAt.c0 : w.cell? ⟨R, 0, none⟩ = some (.string s) := k.cell 0
theorem RdAt.c1 : w.cell? ⟨R, 1, none⟩ = some (.int .i64 (p : Nat)) := k.cell 1
theorem RdAt.fz (j : Nat) : w.frozen? ⟨R, j, none⟩ = false := by unfold RdAt at k; simp [World.frozen?, k]
theorem RdAt.ch {S : Nat → Prop} {w' : World} (c : Ch S w w') (hR : ¬ S R) : RdAt w' R s p := (c.block R k.lt hR).trans k
theorem RdAt.below {w' : World} (c : Below w.heap.size w w') : RdAt w' R s p := k.ch (Ch.ofBelow (S := fun _ => False) c) (fun h => h)
theorem RdAt.set (q : Nat) : RdAt (w.setCell ⟨R, 1, none⟩ (.int .i64 (q : Nat))) R s q := by
  unfold RdAt at k ⊢
  rw [heap_setCell_same w R 1 _ _ _ k]
  rfl
end
/-- nothing but draws -/
abbrev NoCh (w w' : World) : Prop := Ch (fun _ => False) w w'
theorem rd_no {w w' : World} {R : Nat} {s : ByteArray} {p : Nat} (k : RdAt w R s p) (c : NoCh w w') : RdAt w' R s p := k.ch c (fun h => h)
set_option maxHeartbeats 1600000 in
set_option maxRecDepth 100000 in
theorem ended_any (R : Nat) (s : ByteArray) (p : Nat) (w : World) (h : RdAt w R s p) : Calls Tryz.prog 31 #[.pointer (some ⟨R, 0, none⟩)] w fun r w' => r = .returned (.bool (p == s.size)) ∧ NoCh w w' := by
  have c0 := h.c0
  have c1 := h.c1
  have hb : (p == s.size) = (((p : Nat) : Int) == ((s.size : Nat) : Int)) := by rw [Bool.eq_iff_iff]; simp; omega
  have HB : Hid ((p == s.size) = (((p : Nat) : Int) == ((s.size : Nat) : Int))) := hb
  clear h hb
  go_enter Tryz.func31, Tryz.ntmps31
  go_wp2
  try go_region
  go_wp2
  go_ret
  exact ⟨by rw [HB.out]; rfl, (Ch.refl _ _).drew⟩
set_option maxHeartbeats 1600000 in
set_option maxRecDepth 100000 in
theorem wrong_any (R : Nat) (s : ByteArray) (p : Nat) (w : World) (h : RdAt w R s p) (hp : p ≤ s.size) : Calls Tryz.prog 35 #[.pointer (some ⟨R, 0, none⟩)] w fun r w' => r = .returned (.int .i64 ((hrE s p).1 : Nat)) ∧ NoCh w w' := by
  have H : Hid (RdAt w R s p) := h
  obtain ⟨b, hb⟩ : ∃ b, (p == s.size) = b := ⟨_, rfl⟩
  have HB : Hid ((p == s.size) = b) := hb
  have HP : Hid (p ≤ s.size) := hp
  clear h hb hp
  go_enter Tryz.func35, Tryz.ntmps35
  go_wp2_with fail
  refine (ended_any R s p w H.out).mono ?_
  rintro e w1 ⟨rfl, hn⟩
  have HN : Hid (NoCh w w1) := hn
  rw [HB.out]
  clear hn
  cases b with
  | true =>
    go_wp2
    go_ret
    have h1 := HB.out
    simp at h1
    exact ⟨by unfold hrE; rw [if_pos (by omega)]; rfl, HN.out⟩
  | false =>
    go_wp2
    go_ret
    have h1 := HB.out
    have h2 := HP.out
    simp at h1
    exact ⟨by unfold hrE; rw [if_neg (by omega)]; rfl, HN.out⟩
set_option maxHeartbeats 1600000 in
set_option maxRecDepth 100000 in
theorem end_any (R : Nat) (s : ByteArray) (p : Nat) (w : World) (h : RdAt w R s p) : Calls Tryz.prog 37 #[.pointer (some ⟨R, 0, none⟩)] w fun r w' => r = .returned (.int .i64 (if p == s.size then 0 else 41)) ∧ NoCh w w' := by
  have H : Hid (RdAt w R s p) := h
  obtain ⟨b, hb⟩ : ∃ b, (p == s.size) = b := ⟨_, rfl⟩
  have HB : Hid ((p == s.size) = b) := hb
  rw [hb]
  clear h hb
  go_enter Tryz.func37, Tryz.ntmps37
  go_wp2_with fail
  refine (ended_any R s p w H.out).mono ?_
  rintro e w1 ⟨rfl, hn⟩
  have HN : Hid (NoCh w w1) := hn
  rw [HB.out]
  clear hn
  cases b with
  | true =>
    go_wp2
    go_ret
    exact ⟨rfl, HN.out⟩
  | false =>
    go_wp2
    go_ret
    exact ⟨rfl, HN.out⟩
set_option maxHeartbeats 1600000 in
set_option maxRecDepth 100000 in
theorem refuse_any (R : Nat) (s : ByteArray) (p q : Nat) (e : Int) (w : World) (h : RdAt w R s p) : Calls Tryz.prog 67 #[.pointer (some ⟨R, 0, none⟩), .int .i64 (q : Nat), .int .i64 e] w fun r w' => r = .returned (.int .i64 e) ∧ RdAt w' R s q ∧ Ch (fun k => k = R) w w' := by
  have c1 := h.c1
  have f1 := h.fz 1
  have H2 : Hid (RdAt (w.setCell ⟨R, 1, none⟩ (.int .i64 (q : Nat))) R s q) := h.set q
  clear h
  go_enter Tryz.func67, Tryz.ntmps67
  go_wp2
  go_ret
  exact ⟨rfl, H2.out, (Ch.refl (fun k => k = R) w).set ⟨R, 1, none⟩ _ rfl⟩
/-- a digit's value, 16 where it is none -/
def dgV (c : Nat) : Nat := if dgB c then c - 48 else if decide (97 ≤ c) && decide (c ≤ 102) then c - 97 + 10 else if decide (65 ≤ c) && decide (c ≤ 70) then c - 65 + 10 else 16
theorem dgV_ten (c : Nat) : decide (dgV c < 10) = dgB c := by
  unfold dgV
  cases h : dgB c with
  | true => simp [dgB] at h; simp; omega
  | false =>
    simp
    split
    · rename_i h1; first | omega | (simp at h1; omega)
    · split
      · rename_i h1; first | omega | (simp at h1; omega)
      · omega
theorem dgV_hex (c : Nat) : decide (dgV c < 16) = hxB c := by
  unfold hxB wth dgV
  cases h : dgB c with
  | true => simp [dgB] at h; simp; omega
  | false =>
    by_cases h1 : 97 ≤ c ∧ c ≤ 102
    · simp [h1]; omega
    · by_cases h2 : 65 ≤ c ∧ c ≤ 70
      · simp [h1, h2]; omega
      · simp [h1, h2]
theorem dgV_wth {c : Nat} (h : hxB c = true) : dgV c = (wth c).toNat := by
  unfold hxB wth at h
  unfold wth dgV
  cases hd : dgB c with
  | true => simp [dgB] at hd; simp; omega
  | false =>
    rw [hd] at h
    simp at h ⊢
    split
    · rename_i h1; first | omega | (simp at h1; omega)
    · rename_i h0
      rw [if_neg h0] at h
      split
      · rename_i h1; first | omega | (simp at h1; omega)
      · rename_i h1
        rw [if_neg h1] at h
        omega
theorem dgV_le (c : Nat) : dgV c ≤ 16 := by
  unfold dgV
  split
  · rename_i h; simp [dgB] at h; omega
  · split
    · rename_i h; simp at h; omega
    · split
      · rename_i h; simp at h; omega
      · omega
set_option maxHeartbeats 1600000 in
set_option maxRecDepth 100000 in
theorem digit_any' (c : Nat) (w : World) (hc : c < 256) : Calls Tryz.prog 83 #[.int .u8 (c : Nat)] w fun r w' => r = .returned (.int .i64 (dgV c : Nat)) ∧ w = w' := by
  have HC : Hid (c < 256) := hc
  go_enter Tryz.func83, Tryz.ntmps83
  by_cases h1 : 48 ≤ c ∧ c ≤ 57
  · have q1 : decide ((48 : Int) ≤ (c : Int)) = true := decide_eq_true (by omega)
    have q2 : decide ((c : Int) ≤ 57) = true := decide_eq_true (by omega)
    have w1 : IntKind.u8.wrap ((c : Int) - 48) = (c : Int) - 48 := u8_s _ (by omega) (by omega)
    have w2 : IntKind.i64.wrap ((c : Int) - 48) = (c : Int) - 48 := i64_s _ (by omega) (by omega)
    have HR : Hid (((dgV c : Nat) : Int) = (c : Int) - 48) := by show _ = _; unfold dgV; rw [if_pos (by simp [dgB]; omega)]; omega
    clear hc h1
    go_wp2
    go_ret
    exact ⟨by rw [HR.out]; rfl, rfl⟩
  · have hd : dgB c = false := by cases hh : dgB c with | false => rfl | true => simp [dgB] at hh; omega
    by_cases h2 : 97 ≤ c ∧ c ≤ 102
    · have q1 : decide ((48 : Int) ≤ (c : Int)) = true := decide_eq_true (by omega)
      have q2 : decide ((c : Int) ≤ 57) = false := decide_eq_false (by omega)
      have q3 : decide ((97 : Int) ≤ (c : Int)) = true := decide_eq_true (by omega)
      have q4 : decide ((c : Int) ≤ 102) = true := decide_eq_true (by omega)
      have w1 : IntKind.u8.wrap ((c : Int) - 97) = (c : Int) - 97 := u8_s _ (by omega) (by omega)
      have w2 : IntKind.i64.wrap ((c : Int) - 97) = (c : Int) - 97 := i64_s _ (by omega) (by omega)
      have w3 : IntKind.i64.wrap ((c : Int) - 97 + 10) = (c : Int) - 97 + 10 := i64_s _ (by omega) (by omega)
      have HR : Hid (((dgV c : Nat) : Int) = (c : Int) - 97 + 10) := by show _ = _; unfold dgV; rw [hd, if_neg (by decide), if_pos (by simp; omega)]; omega
      clear hc h1 h2 hd
      go_wp2
      go_ret
      exact ⟨by rw [HR.out]; rfl, rfl⟩
    · by_cases h3 : 65 ≤ c ∧ c ≤ 70
      · have q1 : decide ((48 : Int) ≤ (c : Int)) = true := decide_eq_true (by omega)
        have q2 : decide ((c : Int) ≤ 57) = false := decide_eq_false (by omega)
        have q3 : decide ((97 : Int) ≤ (c : Int)) = false := decide_eq_false (by omega)
        have q5 : decide ((65 : Int) ≤ (c : Int)) = true := decide_eq_true (by omega)
        have q6 : decide ((c : Int) ≤ 70) = true := decide_eq_true (by omega)
        have w1 : IntKind.u8.wrap ((c : Int) - 65) = (c : Int) - 65 := u8_s _ (by omega) (by omega)
        have w2 : IntKind.i64.wrap ((c : Int) - 65) = (c : Int) - 65 := i64_s _ (by omega) (by omega)
        have w3 : IntKind.i64.wrap ((c : Int) - 65 + 10) = (c : Int) - 65 + 10 := i64_s _ (by omega) (by omega)
        have HR : Hid (((dgV c : Nat) : Int) = (c : Int) - 65 + 10) := by show _ = _; unfold dgV; rw [hd, if_neg (by decide), if_neg (by simp; omega), if_pos (by simp; omega)]; omega
        clear hc h1 h2 h3 hd
        go_wp2
        go_ret
        exact ⟨by rw [HR.out]; rfl, rfl⟩
      · have HR : Hid (((dgV c : Nat) : Int) = 16) := by show _ = _; unfold dgV; rw [hd, if_neg (by decide), if_neg (by simp; omega), if_neg (by simp; omega)]; rfl
        have q0 : decide ((48 : Int) ≤ (c : Int)) = decide (48 ≤ c) := by rw [Bool.eq_iff_iff]; simp; omega
        by_cases k1 : 48 ≤ c
        · have q1 : decide ((48 : Int) ≤ (c : Int)) = true := decide_eq_true (by omega)
          have q2 : decide ((c : Int) ≤ 57) = false := decide_eq_false (by omega)
          by_cases k2 : 97 ≤ c
          · have q3 : decide ((97 : Int) ≤ (c : Int)) = true := decide_eq_true (by omega)
            have q4 : decide ((c : Int) ≤ 102) = false := decide_eq_false (by omega)
            have q5 : decide ((65 : Int) ≤ (c : Int)) = true := decide_eq_true (by omega)
            have q6 : decide ((c : Int) ≤ 70) = false := decide_eq_false (by omega)
            clear hc h1 h2 h3 hd k1 k2 q0
            go_wp2
            go_ret
            exact ⟨by rw [HR.out]; rfl, rfl⟩
          · have q3 : decide ((97 : Int) ≤ (c : Int)) = false := decide_eq_false (by omega)
            by_cases k3 : 65 ≤ c
            · have q5 : decide ((65 : Int) ≤ (c : Int)) = true := decide_eq_true (by omega)
              have q6 : decide ((c : Int) ≤ 70) = false := decide_eq_false (by omega)
              clear hc h1 h2 h3 hd k1 k2 k3 q0
              go_wp2
              go_ret
              exact ⟨by rw [HR.out]; rfl, rfl⟩
            · have q5 : decide ((65 : Int) ≤ (c : Int)) = false := decide_eq_false (by omega)
              clear hc h1 h2 h3 hd k1 k2 k3 q0
              go_wp2
              go_ret
              exact ⟨by rw [HR.out]; rfl, rfl⟩
        · have q1 : decide ((48 : Int) ≤ (c : Int)) = false := decide_eq_false (by omega)
          have q3 : decide ((97 : Int) ≤ (c : Int)) = false := decide_eq_false (by omega)
          have q5 : decide ((65 : Int) ≤ (c : Int)) = false := decide_eq_false (by omega)
          clear hc h1 h2 h3 hd k1 q0
          go_wp2
          go_ret
          exact ⟨by rw [HR.out]; rfl, rfl⟩
end Go.Proofs.YteldiggaooeeeaaGreatDoor
