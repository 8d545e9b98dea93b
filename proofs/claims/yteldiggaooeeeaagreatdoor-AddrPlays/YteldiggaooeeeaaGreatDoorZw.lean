/-
  Layer 4: addr.reader: ended, wrong, end, refuse, stands, skip; digit.
-/
/-
  Layer 4: addr.reader: stands, skip, digits, number.
-/
/-
  Layer 4: value, addr.reader: digits, number.
-/
/-
  Layer 4: addr.reader: number.
-/
/-
  Layer 4: addr.reader: four.
-/
/-
  Layer 4: addr.dotted.
-/
/-
  Layer 4: addr.PrintIP of an address of version 4, addr.ParseIP of a text without a colon.
-/
import Derived.Test.YteldiggaooeeeaaGreatDoorAdSh
import Derived.Test.YteldiggaooeeeaaGreatDoorAdS
import Derived.Deep.CutBlock
import Derived.Deep.DeepCutAuto
import Derived.Deep.RegionWith
import Derived.Lib.AppendIntMem
namespace Go.Proofs.YteldiggaooeeeaaGreatDoor
open Go.RowKit

def rdC (s : ByteArray) (p : Nat) : Array Value := #[.string s, .int .i64 (p : Nat)]
def RdAt (w : World) (R : Nat) (s : ByteArray) (p : Nat) : Prop := w.heap[R]? = some (.cells (rdC s p) 45 (0, 0))
section
variable {w : World} {R : Nat} {s : ByteArray} {p : Nat} (k : RdAt w R s p)
include k
theorem RdAt.lt : R < w.heap.size := (Array.getElem?_eq_some_iff.1 k).1
theorem RdAt.cell (i : Nat) : w.cell? ⟨R, i, none⟩ = (rdC s p)[i]? := by unfold RdAt at k; simp [World.cell?, k]
theorem RdAt.c0 : w.cell? ⟨R, 0, none⟩ = some (.string s) := k.cell 0
theorem RdAt.c1 : w.cell? ⟨R, 1, none⟩ = some (.int .i64 (p : Nat)) := k.cell 1
theorem RdAt.fz (j : Nat) : w.frozen? ⟨R, j, none⟩ = false := by unfold RdAt at k; simp [World.frozen?, k]
theorem RdAt.ch {S : Nat → Prop} {w' : World} (c : Ch S w w') (hR : ¬ S R) : RdAt w' R s p := (c.block R k.lt hR).trans k
theorem RdAt.below {w' : World} (c : Below w.heap.size w w') : RdAt w' R s p := k.ch (Ch.ofBelow (S := fun _ => False) c) (fun h => h)
theorem RdAt.set (q : Nat) : RdAt (w.setCell ⟨R, 1, none⟩ (.int .i64 (q : Nat))) R s q := by
  unfold RdAt at k ⊢
  rw [heap_setCell_same w R 1 _ _ _ k]
  rfl
end
/-- nothing but draws -/
abbrev NoCh (w w' : World) : Prop := Ch (fun _ => False) w w'
theorem rd_no {w w' : World} {R : Nat} {s : ByteArray} {p : Nat} (k : RdAt w R s p) (c : NoCh w w') : RdAt w' R s p := k.ch c (fun h => h)
set_option maxHeartbeats 1600000 in
set_option maxRecDepth 100000 in
theorem ended_any (R : Nat) (s : ByteArray) (p : Nat) (w : World) (h : RdAt w R s p) : Calls Tryz.prog 31 #[.pointer (some ⟨R, 0, none⟩)] w fun r w' => r = .returned (.bool (p == s.size)) ∧ NoCh w w' := by
  have c0 := h.c0
  have c1 := h.c1
  have hb : (p == s.size) = (((p : Nat) : Int) == ((s.size : Nat) : Int)) := by rw [Bool.eq_iff_iff]; simp; omega
  have HB : Hid ((p == s.size) = (((p : Nat) : Int) == ((s.size : Nat) : Int))) := hb
  clear h hb
  go_enter Tryz.func31, Tryz.ntmps31
  go_wp2
  try go_region
  go_wp2
  go_ret
  exact ⟨by rw [HB.out]; rfl, (Ch.refl _ _).drew⟩
set_option maxHeartbeats 1600000 in
set_option maxRecDepth 100000 in
theorem wrong_any (R : Nat) (s : ByteArray) (p : Nat) (w : World) (h : RdAt w R s p) (hp : p ≤ s.size) : Calls Tryz.prog 35 #[.pointer (some ⟨R, 0, none⟩)] w fun r w' => r = .returned (.int .i64 ((hrE s p).1 : Nat)) ∧ NoCh w w' := by
  have H : Hid (RdAt w R s p) := h
  obtain ⟨b, hb⟩ : ∃ b, (p == s.size) = b := ⟨_, rfl⟩
  have HB : Hid ((p == s.size) = b) := hb
  have HP : Hid (p ≤ s.size) := hp
  clear h hb hp
  go_enter Tryz.func35, Tryz.ntmps35
  go_wp2_with fail
  refine (ended_any R s p w H.out).mono ?_
  rintro e w1 ⟨rfl, hn⟩
  have HN : Hid (NoCh w w1) := hn
  rw [HB.out]
  clear hn
  cases b with
  | true =>
    go_wp2
    go_ret
    have h1 := HB.out
    simp at h1
    exact ⟨by unfold hrE; rw [if_pos (by omega)]; rfl, HN.out⟩
  | false =>
    go_wp2
    go_ret
    have h1 := HB.out
    have h2 := HP.out
    simp at h1
    exact ⟨by unfold hrE; rw [if_neg (by omega)]; rfl, HN.out⟩
set_option maxHeartbeats 1600000 in
set_option maxRecDepth 100000 in
theorem end_any (R : Nat) (s : ByteArray) (p : Nat) (w : World) (h : RdAt w R s p) : Calls Tryz.prog 37 #[.pointer (some ⟨R, 0, none⟩)] w fun r w' => r = .returned (.int .i64 (if p == s.size then 0 else 41)) ∧ NoCh w w' := by
  have H : Hid (RdAt w R s p) := h
  obtain ⟨b, hb⟩ : ∃ b, (p == s.size) = b := ⟨_, rfl⟩
  have HB : Hid ((p == s.size) = b) := hb
  rw [hb]
  clear h hb
  go_enter Tryz.func37, Tryz.ntmps37
  go_wp2_with fail
  refine (ended_any R s p w H.out).mono ?_
  rintro e w1 ⟨rfl, hn⟩
  have HN : Hid (NoCh w w1) := hn
  rw [HB.out]
  clear hn
  cases b with
  | true =>
    go_wp2
    go_ret
    exact ⟨rfl, HN.out⟩
  | false =>
    go_wp2
    go_ret
    exact ⟨rfl, HN.out⟩
set_option maxHeartbeats 1600000 in
set_option maxRecDepth 100000 in
theorem refuse_any (R : Nat) (s : ByteArray) (p q : Nat) (e : Int) (w : World) (h : RdAt w R s p) : Calls Tryz.prog 67 #[.pointer (some ⟨R, 0, none⟩), .int .i64 (q : Nat), .int .i64 e] w fun r w' => r = .returned (.int .i64 e) ∧ RdAt w' R s q ∧ Ch (fun k => k = R) w w' := by
  have c1 := h.c1
  have f1 := h.fz 1
  have H2 : Hid (RdAt (w.setCell ⟨R, 1, none⟩ (.int .i64 (q : Nat))) R s q) := h.set q
  clear h
  go_enter Tryz.func67, Tryz.ntmps67
  go_wp2
  go_ret
  exact ⟨rfl, H2.out, (Ch.refl (fun k => k = R) w).set ⟨R, 1, none⟩ _ rfl⟩
/-- a digit's value, 16 where it is none -/
def dgV (c : Nat) : Nat := if dgB c then c - 48 else if decide (97 ≤ c) && decide (c ≤ 102) then c - 97 + 10 else if decide (65 ≤ c) && decide (c ≤ 70) then c - 65 + 10 else 16
theorem dgV_ten (c : Nat) : decide (dgV c < 10) = dgB c := by
  unfold dgV
  cases h : dgB c with
  | true => simp [dgB] at h; simp; omega
  | false =>
    simp
    split
    · rename_i h1; first | omega | (simp at h1; omega)
    · split
      · rename_i h1; first | omega | (simp at h1; omega)
      · omega
theorem dgV_hex (c : Nat) : decide (dgV c < 16) = hxB c := by
  unfold hxB wth dgV
  cases h : dgB c with
  | true => simp [dgB] at h; simp; omega
  | false =>
    by_cases h1 : 97 ≤ c ∧ c ≤ 102
    · simp [h1]; omega
    · by_cases h2 : 65 ≤ c ∧ c ≤ 70
      · simp [h1, h2]; omega
      · simp [h1, h2]
theorem dgV_wth {c : Nat} (h : hxB c = true) : dgV c = (wth c).toNat := by
  unfold hxB wth at h
  unfold wth dgV
  cases hd : dgB c with
  | true => simp [dgB] at hd; simp; omega
  | false =>
    rw [hd] at h
    simp at h ⊢
    split
    · rename_i h1; first | omega | (simp at h1; omega)
    · rename_i h0
      rw [if_neg h0] at h
      split
      · rename_i h1; first | omega | (simp at h1; omega)
      · rename_i h1
        rw [if_neg h1] at h
        omega
theorem dgV_le (c : Nat) : dgV c ≤ 16 := by
  unfold dgV
  split
  · rename_i h; simp [dgB] at h; omega
  · split
    · rename_i h; simp at h; omega
    · split
      · rename_i h; simp at h; omega
      · omega
set_option maxHeartbeats 1600000 in
set_option maxRecDepth 100000 in
theorem digit_any' (c : Nat) (w : World) (hc : c < 256) : Calls Tryz.prog 83 #[.int .u8 (c : Nat)] w fun r w' => r = .returned (.int .i64 (dgV c : Nat)) ∧ w = w' := by
  have HC : Hid (c < 256) := hc
  go_enter Tryz.func83, Tryz.ntmps83
  by_cases h1 : 48 ≤ c ∧ c ≤ 57
  · have q1 : decide ((48 : Int) ≤ (c : Int)) = true := decide_eq_true (by omega)
    have q2 : decide ((c : Int) ≤ 57) = true := decide_eq_true (by omega)
    have w1 : IntKind.u8.wrap ((c : Int) - 48) = (c : Int) - 48 := u8_s _ (by omega) (by omega)
    have w2 : IntKind.i64.wrap ((c : Int) - 48) = (c : Int) - 48 := i64_s _ (by omega) (by omega)
    have HR : Hid (((dgV c : Nat) : Int) = (c : Int) - 48) := by show _ = _; unfold dgV; rw [if_pos (by simp [dgB]; omega)]; omega
    clear hc h1
    go_wp2
    go_ret
    exact ⟨by rw [HR.out]; rfl, rfl⟩
  · have hd : dgB c = false := by cases hh : dgB c with | false => rfl | true => simp [dgB] at hh; omega
    by_cases h2 : 97 ≤ c ∧ c ≤ 102
    · have q1 : decide ((48 : Int) ≤ (c : Int)) = true := decide_eq_true (by omega)
      have q2 : decide ((c : Int) ≤ 57) = false := decide_eq_false (by omega)
      have q3 : decide ((97 : Int) ≤ (c : Int)) = true := decide_eq_true (by omega)
      have q4 : decide ((c : Int) ≤ 102) = true := decide_eq_true (by omega)
      have w1 : IntKind.u8.wrap ((c : Int) - 97) = (c : Int) - 97 := u8_s _ (by omega) (by omega)
      have w2 : IntKind.i64.wrap ((c : Int) - 97) = (c : Int) - 97 := i64_s _ (by omega) (by omega)
      have w3 : IntKind.i64.wrap ((c : Int) - 97 + 10) = (c : Int) - 97 + 10 := i64_s _ (by omega) (by omega)
      have HR : Hid (((dgV c : Nat) : Int) = (c : Int) - 97 + 10) := by show _ = _; unfold dgV; rw [hd, if_neg (by decide), if_pos (by simp; omega)]; omega
      clear hc h1 h2 hd
      go_wp2
      go_ret
      exact ⟨by rw [HR.out]; rfl, rfl⟩
    · by_cases h3 : 65 ≤ c ∧ c ≤ 70
      · have q1 : decide ((48 : Int) ≤ (c : Int)) = true := decide_eq_true (by omega)
        have q2 : decide ((c : Int) ≤ 57) = false := decide_eq_false (by omega)
        have q3 : decide ((97 : Int) ≤ (c : Int)) = false := decide_eq_false (by omega)
        have q5 : decide ((65 : Int) ≤ (c : Int)) = true := decide_eq_true (by omega)
        have q6 : decide ((c : Int) ≤ 70) = true := decide_eq_true (by omega)
        have w1 : IntKind.u8.wrap ((c : Int) - 65) = (c : Int) - 65 := u8_s _ (by omega) (by omega)
        have w2 : IntKind.i64.wrap ((c : Int) - 65) = (c : Int) - 65 := i64_s _ (by omega) (by omega)
        have w3 : IntKind.i64.wrap ((c : Int) - 65 + 10) = (c : Int) - 65 + 10 := i64_s _ (by omega) (by omega)
        have HR : Hid (((dgV c : Nat) : Int) = (c : Int) - 65 + 10) := by show _ = _; unfold dgV; rw [hd, if_neg (by decide), if_neg (by simp; omega), if_pos (by simp; omega)]; omega
        clear hc h1 h2 h3 hd
        go_wp2
        go_ret
        exact ⟨by rw [HR.out]; rfl, rfl⟩
      · have HR : Hid (((dgV c : Nat) : Int) = 16) := by show _ = _; unfold dgV; rw [hd, if_neg (by decide), if_neg (by simp; omega), if_neg (by simp; omega)]; rfl
        have q0 : decide ((48 : Int) ≤ (c : Int)) = decide (48 ≤ c) := by rw [Bool.eq_iff_iff]; simp; omega
        by_cases k1 : 48 ≤ c
        · have q1 : decide ((48 : Int) ≤ (c : Int)) = true := decide_eq_true (by omega)
          have q2 : decide ((c : Int) ≤ 57) = false := decide_eq_false (by omega)
          by_cases k2 : 97 ≤ c
          · have q3 : decide ((97 : Int) ≤ (c : Int)) = true := decide_eq_true (by omega)
            have q4 : decide ((c : Int) ≤ 102) = false := decide_eq_false (by omega)
            have q5 : decide ((65 : Int) ≤ (c : Int)) = true := decide_eq_true (by omega)
            have q6 : decide ((c : Int) ≤ 70) = false := decide_eq_false (by omega)
            clear hc h1 h2 h3 hd k1 k2 q0
            go_wp2
            go_ret
            exact ⟨by rw [HR.out]; rfl, rfl⟩
          · have q3 : decide ((97 : Int) ≤ (c : Int)) = false := decide_eq_false (by omega)
            by_cases k3 : 65 ≤ c
            · have q5 : decide ((65 : Int) ≤ (c : Int)) = true := decide_eq_true (by omega)
              have q6 : decide ((c : Int) ≤ 70) = false := decide_eq_false (by omega)
              clear hc h1 h2 h3 hd k1 k2 k3 q0
              go_wp2
              go_ret
              exact ⟨by rw [HR.out]; rfl, rfl⟩
            · have q5 : decide ((65 : Int) ≤ (c : Int)) = false := decide_eq_false (by omega)
              clear hc h1 h2 h3 hd k1 k2 k3 q0
              go_wp2
              go_ret
              exact ⟨by rw [HR.out]; rfl, rfl⟩
        · have q1 : decide ((48 : Int) ≤ (c : Int)) = false := decide_eq_false (by omega)
          have q3 : decide ((97 : Int) ≤ (c : Int)) = false := decide_eq_false (by omega)
          have q5 : decide ((65 : Int) ≤ (c : Int)) = false := decide_eq_false (by omega)
          clear hc h1 h2 h3 hd k1 q0
          go_wp2
          go_ret
          exact ⟨by rw [HR.out]; rfl, rfl⟩
end Go.Proofs.YteldiggaooeeeaaGreatDoor
namespace Go.Proofs.YteldiggaooeeeaaGreatDoor
open Go.RowKit Go.Maps

/-- does a mark stand at p? -/
def stB (s : ByteArray) (p : Nat) (m : ByteArray) : Bool := Lib.hasPrefix (s.data.toList.drop p) m.data.toList
def RdS (w A : World) (R : Nat) (s : ByteArray) (p : Nat) : Prop := RdAt A R s p ∧ NoCh w A
theorem RdS.mono {w A B : World} {R : Nat} {s : ByteArray} {p : Nat} (h : RdS w A R s p) (c : NoCh A B) : RdS w B R s p := ⟨rd_no h.1 c, h.2.trans c (fun _ _ h => h)⟩
theorem RdS.drew {w A : World} {R : Nat} {s : ByteArray} {p : Nat} (h : RdS w A R s p) : RdS w A.drew R s p := h.mono (Ch.refl _ _).drew
theorem RdS.start {w : World} {R : Nat} {s : ByteArray} {p : Nat} (h : RdAt w R s p) : RdS w w R s p := ⟨h, Ch.refl _ _⟩
theorem stB_cut (s m : ByteArray) (p : Nat) : Lib.hasPrefix (s.extract p s.size).data.toList m.data.toList = stB s p m := by
  unfold stB
  congr 1
  rw [ByteArray.data_extract, Array.toList_extract, List.extract_eq_take_drop]
  have : (s.data.toList.drop p).length = s.size - p := by rw [List.length_drop]; rfl
  rw [← this, List.take_length]
theorem stB_one {s : ByteArray} {p : Nat} {c : UInt8} (hp : p ≤ s.size) : stB s p ⟨#[c]⟩ = (decide (p < s.size) && sB s p == c.toNat) := by
  unfold stB
  by_cases h : p < s.size
  · have h2 : p < s.data.toList.length := h
    rw [List.drop_eq_getElem_cons h2, decide_eq_true h]
    unfold sB
    rw [List.getD_eq_getElem?_getD, List.getElem?_eq_getElem h2]
    show (_ && true) = _
    simp
    rw [Bool.eq_iff_iff]
    simp [UInt8.toNat_inj]
    exact eq_comm
  · rw [List.drop_eq_nil_of_le (by show s.size ≤ p; omega), decide_eq_false h]
    rfl
theorem stB_two {s : ByteArray} {p : Nat} : stB s p ⟨#[58, 58]⟩ = twB s p := by
  unfold stB twB
  by_cases h : p + 1 < s.size
  · have h2 : p + 1 < s.data.toList.length := h
    have h3 : p < s.data.toList.length := by omega
    rw [List.drop_eq_getElem_cons h3, List.drop_eq_getElem_cons h2, decide_eq_true h]
    unfold sB
    rw [List.getD_eq_getElem?_getD, List.getElem?_eq_getElem h3, List.getD_eq_getElem?_getD, List.getElem?_eq_getElem h2]
    rw [Bool.eq_iff_iff]
    simp [Lib.hasPrefix, ← UInt8.toNat_inj]
    constructor <;> rintro ⟨a, b⟩ <;> exact ⟨a.symm, b.symm⟩
  · rw [decide_eq_false h]
    by_cases h4 : p < s.size
    · have h3 : p < s.data.toList.length := h4
      rw [List.drop_eq_getElem_cons h3, List.drop_eq_nil_of_le (by show s.size ≤ p + 1; omega)]
      simp [Lib.hasPrefix, List.isPrefixOf]
    · rw [List.drop_eq_nil_of_le (by show s.size ≤ p; omega)]
      rfl
set_option maxHeartbeats 1600000 in
set_option maxRecDepth 100000 in
theorem stands_any (R : Nat) (s m : ByteArray) (p : Nat) (w : World) (h : RdAt w R s p) (hp : p ≤ s.size) : Calls Tryz.prog 63 #[.pointer (some ⟨R, 0, none⟩), .string m] w fun r w' => r = .returned (.bool (stB s p m)) ∧ NoCh w w' := by
  have HS0 : Hid (RdS w w R s p) := RdS.start h
  have HP : Hid (p ≤ s.size) := hp
  have p1 : (0 : Int) ≤ (p : Int) := by omega
  have p2 : (p : Int) ≤ (s.size : Int) := by omega
  clear h hp
  go_enter Tryz.func63, Tryz.ntmps63
  go_upto_region 1 with fail
  refine MixH.start (fun A => RdS w A R s p) (by kernel_rfl) ?_
  obtain ⟨wA, hwA⟩ : ∃ W_, W_ = w.drew := ⟨_, rfl⟩
  have bdr : Below w.heap.size w wA := by rw [hwA]; exact (Below.refl _ _).drew
  have hS : RdS w wA R s p := HS0.out.mono (Ch.ofBelow bdr)
  rw [← hwA]
  clear hwA bdr
  refine MixH.takes [true, true, true, false, true, true, true, false, false, true] 5 (by kernel_rfl) (by kernel_rfl) (by decide) (by kernel_rfl) hS (fun K hK => ?_)
  simp only [Mix.pick]
  repeat (go_big_quiet_step (fail))
  refine wpQuiet_nil (hK _ ?_)
  clear hK K
  refine MixH.take 4 3 _ (.string s) rfl (by kernel_rfl) (by kernel_rfl) (by kernel_rfl) (by kernel_rfl) (yields_str (.tmp 7) rfl ⟨R, 0, none⟩ (.string s) rfl rfl (fun A hA => hA.1.c0)) hS (fun a' ha => ?_)
  simp only [Act.put, List.setIfInBounds_toArray, List.set_cons_succ, List.set_cons_zero] at ha
  subst ha
  refine MixH.take 3 7 _ (.int .i64 (p : Nat)) rfl (by kernel_rfl) (by kernel_rfl) (by kernel_rfl) (by kernel_rfl) (yields_int (.tmp 11) rfl ⟨R, 1, none⟩ (.int .i64 (p : Nat)) rfl rfl (fun A hA => hA.1.c1)) hS (fun a' ha => ?_)
  simp only [Act.put, List.setIfInBounds_toArray, List.set_cons_succ, List.set_cons_zero] at ha
  subst ha
  refine MixH.takes [false, false, false, false, false, false, false, false, true] 2 (by kernel_rfl) (by kernel_rfl) (by decide) (by kernel_rfl) hS (fun K hK => ?_)
  simp only [Mix.pick]
  repeat (go_big_quiet_step (fail))
  refine wpQuiet_nil (hK _ ?_)
  clear hK K
  refine MixH.one [false, false, false, false, false, false, false, false, false, false, true] 1 10 _ rfl rfl (by kernel_rfl) (by kernel_rfl) (fun K hK => ?_)
  simp only [Mix.pick]
  go_wp2_with fail
  refine Calls.mono (has_any _ m wA) ?_
  rintro e w1 ⟨rfl, rfl⟩
  rw [stB_cut]
  go_wp2_with fail
  refine ⟨rfl, hK _ _ hS ?_⟩
  clear hK K
  refine MixH.takes [false, false, false, false, false, false, false, false, false, false, false, true] 0 (by kernel_rfl) (by kernel_rfl) (by decide) (by kernel_rfl) hS (fun K hK => ?_)
  simp only [Mix.pick]
  repeat (go_big_quiet_step (fail))
  refine wpQuiet_nil (hK _ ?_)
  clear hK K
  refine MixH.done (by kernel_rfl) ?_
  go_wp2
  go_ret
  exact ⟨rfl, hS.2⟩
set_option maxHeartbeats 1600000 in
set_option maxRecDepth 100000 in
theorem skip_any (R : Nat) (s m : ByteArray) (p : Nat) (w : World) (h : RdAt w R s p) (hp : p ≤ s.size) (hs : s.size ≤ 1000) (hm : m.size ≤ 2) : Calls Tryz.prog 30 #[.pointer (some ⟨R, 0, none⟩), .string m] w fun r w' => r = .returned (.bool (stB s p m)) ∧ RdAt w' R s (if stB s p m then p + m.size else p) ∧ Ch (fun k => k = R) w w' := by
  have H : Hid (RdAt w R s p) := h
  have HP : Hid (p ≤ s.size ∧ s.size ≤ 1000 ∧ m.size ≤ 2) := ⟨hp, hs, hm⟩
  obtain ⟨b, hb⟩ : ∃ b, stB s p m = b := ⟨_, rfl⟩
  have HB : Hid (stB s p m = b) := hb
  rw [hb]
  clear h hp hs hm hb
  go_enter Tryz.func30, Tryz.ntmps30
  go_wp2_with fail
  refine (stands_any R s m p w H.out HP.out.1).mono ?_
  rintro e w1 ⟨rfl, hn⟩
  have H1 : Hid (RdS w w1 R s p) := (RdS.start H.out).mono hn
  rw [HB.out]
  clear hn
  cases b with
  | false =>
    go_wp2
    go_ret
    exact ⟨rfl, H1.out.1, H1.out.2.mono (fun _ _ h => h.elim)⟩
  | true =>
    have c1 := H1.out.1.c1
    have f1 := H1.out.1.fz 1
    have e1 : IntKind.i64.wrap ((p : Int) + (m.size : Int)) = (p : Int) + (m.size : Int) := i64_s _ (by omega) (by have := HP.out; omega)
    have H2 : Hid (RdAt (w1.setCell ⟨R, 1, none⟩ (.int .i64 ((p : Int) + (m.size : Int)))) R s (p + m.size)) := by
      have := H1.out.1.set (p + m.size)
      rw [Int.natCast_add] at this
      exact this
    go_wp2
    go_ret
    exact ⟨rfl, H2.out, (H1.out.2.mono (T := fun k => k = R) (fun _ _ h => h.elim)).set ⟨R, 1, none⟩ _ rfl⟩
end Go.Proofs.YteldiggaooeeeaaGreatDoor
namespace Go.Proofs.YteldiggaooeeeaaGreatDoor
open Go.RowKit Go.Maps

/-- the number that the first k digits of a base are -/
def vlN (d : ByteArray) (base : Nat) : Nat → Nat
  | 0 => 0
  | k + 1 => vlN d base k * base + dgV (sB d k)
theorem vlN_le {d : ByteArray} {base : Nat} (hb : base ≤ 16) : ∀ k, vlN d base k + 2 ≤ 2 * 17 ^ k
  | 0 => by simp [vlN]
  | k + 1 => by
    have h1 := vlN_le (d := d) hb k
    have h2 := dgV_le (sB d k)
    have h3 : vlN d base k * base ≤ vlN d base k * 16 := Nat.mul_le_mul_left _ hb
    unfold vlN
    rw [Nat.pow_succ]
    omega
theorem vlN_small {d : ByteArray} {base k : Nat} (hb : base ≤ 16) (hk : k ≤ 3) : vlN d base k ≤ 9826 := by
  have h1 := vlN_le (d := d) hb k
  have h2 : 17 ^ k ≤ 17 ^ 3 := Nat.pow_le_pow_right (by omega) hk
  omega
set_option maxHeartbeats 1600000 in
set_option maxRecDepth 100000 in
theorem value_any (d : ByteArray) (base : Nat) (w : World) (hd : d.size ≤ 4) (hb : base ≤ 16) : Calls Tryz.prog 68 #[.string d, .int .i64 (base : Nat)] w fun r w' => r = .returned (.int .i64 (vlN d base d.size : Nat)) ∧ w = w' := by
  have HD : Hid (d.size ≤ 4 ∧ base ≤ 16) := ⟨hd, hb⟩
  clear hd hb
  go_enter Tryz.func68, Tryz.ntmps68
  go_wp2
  go_loopw [5, 9] (fun nv ix wr => ∃ k : Nat, k ≤ d.size ∧ ix = .int .i64 (k : Nat) ∧ nv = .int .i64 (vlN d base k : Nat) ∧ w = wr) (fun _ ix _ => d.size - (intOf ix).toNat)
  case atStart => exact ⟨0, Nat.zero_le _, rfl, rfl, rfl⟩
  case round =>
    obtain ⟨k, hk, rfl, rfl, rfl⟩ := hrel
    have HK : Hid (k ≤ d.size) := hk
    clear hk
    by_cases hlt : k < d.size
    · have p1 : decide ((k : Int) < (d.size : Int)) = true := decide_eq_true (by omega)
      have p0 : decide (k < d.size) = true := decide_eq_true hlt
      have HLT : Hid (k < d.size) := hlt
      obtain ⟨n, hn⟩ : ∃ n, vlN d base k = n := ⟨_, rfl⟩
      have HN : Hid (vlN d base k = n ∧ n ≤ 9826) := ⟨hn, by rw [← hn]; exact vlN_small HD.out.2 (by have := HD.out; omega)⟩
      obtain ⟨v, hv⟩ : ∃ v, dgV (sB d k) = v := ⟨_, rfl⟩
      have HV : Hid (dgV (sB d k) = v ∧ v ≤ 16) := ⟨hv, by rw [← hv]; exact dgV_le _⟩
      obtain ⟨nb, hnb⟩ : ∃ nb : Nat, nb = n * base := ⟨_, rfl⟩
      have HNB : Hid (nb = n * base ∧ nb ≤ 157216) := ⟨hnb, by have h1 := HN.out.2; have h2 := HD.out.2; rw [hnb]; exact Nat.le_trans (Nat.mul_le_mul h1 h2) (by decide)⟩
      have x1 : IntKind.i64.wrap ((n : Int) * (base : Int)) = (nb : Int) := by rw [hnb, Int.natCast_mul]; exact i64_s _ (by rw [← Int.natCast_mul, ← hnb]; omega) (by rw [← Int.natCast_mul, ← hnb]; have := HNB.out.2; omega)
      have x2 : IntKind.i64.wrap ((nb : Int) + (v : Int)) = (nb : Int) + (v : Int) := i64_s _ (by omega) (by have := HNB.out.2; have := HV.out.2; omega)
      have x3 : IntKind.i64.wrap ((k : Int) + 1) = (k : Int) + 1 := i64_s _ (by omega) (by have := HD.out; have := HLT.out; omega)
      rw [hn]
      clear hlt hn hv hnb
      go_wp2_with (refine wpList_sB (.tmp 15) (.tmp 16) rfl d k _ rfl rfl rfl HLT.out rfl ?_)
      refine (digit_any' (sB d k) w (sB_lt _ _)).mono ?_
      rintro e wz ⟨rfl, rfl⟩
      rw [HV.out.1]
      go_wp2
      go_roundw
      case rel => exact ⟨k + 1, HLT.out, by simp, by unfold vlN; rw [HN.out.1, HV.out.1, ← HNB.out.1]; simp, by first | rfl | trivial⟩
      case measure => have := HLT.out; simp [intOf]; omega
    · have p1 : decide ((k : Int) < (d.size : Int)) = false := decide_eq_false (by omega)
      have p0 : decide (k < d.size) = false := decide_eq_false hlt
      have HE : Hid (k = d.size) := by have := HK.out; show k = _; omega
      clear hlt
      go_wp2
      go_ret
      exact ⟨by rw [HE.out]; rfl, rfl⟩
/-- the digits of a base -/
def dgF (base : Nat) (c : Nat) : Bool := decide (dgV c < base)
theorem dgF_ten : dgF 10 = dgB := by funext c; exact dgV_ten c
theorem dgF_hex : dgF 16 = hxB := by funext c; exact dgV_hex c
theorem scP_ge (s : ByteArray) (f : Nat → Bool) (p : Nat) : p ≤ scP s f p := scn_ge s f _ p
theorem scP_le {s : ByteArray} {f : Nat → Bool} {p : Nat} (h : p ≤ s.size) : scP s f p ≤ s.size := scn_le s f _ p h
def RdC (w A : World) (R : Nat) (s : ByteArray) (p : Nat) : Prop := RdAt A R s p ∧ Ch (fun k => k = R) w A
theorem RdC.start {w : World} {R : Nat} {s : ByteArray} {p : Nat} (h : RdAt w R s p) : RdC w w R s p := ⟨h, Ch.refl _ _⟩
theorem RdC.no {w A B : World} {R : Nat} {s : ByteArray} {p : Nat} (h : RdC w A R s p) (c : NoCh A B) : RdC w B R s p := ⟨rd_no h.1 c, h.2.trans c (fun _ _ h => h.elim)⟩
theorem RdC.to {w A B : World} {R : Nat} {s : ByteArray} {p q : Nat} (h : RdC w A R s p) (c : RdC A B R s q) : RdC w B R s q := ⟨c.1, h.2.trans c.2 (fun _ _ h => h)⟩
theorem RdC.set {w A : World} {R : Nat} {s : ByteArray} {p : Nat} (h : RdC w A R s p) (q : Nat) : RdC w (A.setCell ⟨R, 1, none⟩ (.int .i64 (q : Nat))) R s q := ⟨h.1.set q, h.2.set ⟨R, 1, none⟩ _ rfl⟩
/-- the text between two places -/
def cutB (s : ByteArray) (p q : Nat) : ByteArray := s.extract p q
/-- what digits answers -/
def dgR (s : ByteArray) (base p : Nat) : Value := if scP s (dgF base) p == p then .tuple #[.string ⟨#[]⟩, .int .i64 ((hrE s p).1 : Nat)] else .tuple #[.string (cutB s p (scP s (dgF base) p)), .int .i64 0]
theorem dgR_no {s : ByteArray} {base p : Nat} (h : scP s (dgF base) p = p) : dgR s base p = .tuple #[.string ⟨#[]⟩, .int .i64 ((hrE s p).1 : Nat)] := by unfold dgR; rw [h]; simp
theorem dgR_yes {s : ByteArray} {base p q : Nat} (h : scP s (dgF base) p = q) (hq : q ≠ p) : dgR s base p = .tuple #[.string (cutB s p q), .int .i64 0] := by unfold dgR; rw [h, if_neg (by simpa using hq)]
/-- the place where the reader stands -/
def rdM (s : ByteArray) (R : Nat) (w : World) : Nat := match w.cell? ⟨R, 1, none⟩ with
  | some (.int _ z) => s.size - z.toNat
  | _ => 0
theorem rdM_at {s : ByteArray} {R : Nat} {w : World} {p : Nat} (h : RdAt w R s p) : rdM s R w = s.size - p := by unfold rdM; rw [h.c1]; simp
set_option maxHeartbeats 1600000 in
set_option maxRecDepth 100000 in
theorem digits_any (R : Nat) (s : ByteArray) (p base : Nat) (w : World) (h : RdAt w R s p) (hp : p ≤ s.size) (hs : s.size ≤ 1000) : Calls Tryz.prog 64 #[.pointer (some ⟨R, 0, none⟩), .int .i64 (base : Nat)] w fun r w' => r = .returned (dgR s base p) ∧ RdC w w' R s (scP s (dgF base) p) := by
  have H : Hid (RdC w w R s p) := RdC.start h
  have HP : Hid (p ≤ s.size ∧ s.size ≤ 1000) := ⟨hp, hs⟩
  have c1 := h.c1
  clear h hp hs
  go_enter Tryz.func64, Tryz.ntmps64
  go_wp2
  clear c1
  go_loopw [] (fun wr => ∃ q : Nat, p ≤ q ∧ q ≤ s.size ∧ Hid (scP s (dgF base) q = scP s (dgF base) p) ∧ Hid (RdC w wr R s q)) (fun wr => rdM s R wr)
  case atStart => exact ⟨p, Nat.le_refl _, HP.out.1, rfl, H.out⟩
  case round =>
    obtain ⟨q, hq1, hq2, HQ, HR⟩ := hrel
    have HQB : Hid (p ≤ q ∧ q ≤ s.size) := ⟨hq1, hq2⟩
    clear hq1 hq2
    by_cases hlt : q < s.size
    · have HEQ : Hid ((q == s.size) = false) := by show _ = _; simp; omega
      have HLT : Hid (q < s.size) := hlt
      obtain ⟨v, hv⟩ : ∃ v, dgV (sB s q) = v := ⟨_, rfl⟩
      have HV : Hid (dgV (sB s q) = v) := hv
      have HF : Hid (dgF base (sB s q) = decide (v < base)) := by show _ = _; unfold dgF; rw [hv]
      clear hlt hv
      go_upto_region 2 with fail
      refine MixH.start (fun A => RdC w A R s q) (by kernel_rfl) ?_
      obtain ⟨wA, hwA⟩ : ∃ W_, W_ = wr.drew := ⟨_, rfl⟩
      have bdr : Below wr.heap.size wr wA := by rw [hwA]; exact (Below.refl _ _).drew
      have hS : RdC w wA R s q := HR.out.no (Ch.ofBelow bdr)
      rw [← hwA]
      clear hwA bdr
      refine MixH.takes [true] 16 (by kernel_rfl) (by kernel_rfl) (by decide) (by kernel_rfl) hS (fun K hK => ?_)
      simp only [Mix.pick]
      repeat (go_big_quiet_step (fail))
      refine wpQuiet_nil (hK _ ?_)
      clear hK K
      refine MixH.one [false, true] 15 1 _ rfl rfl (by kernel_rfl) (by kernel_rfl) (fun K hK => ?_)
      simp only [Mix.pick]
      go_wp2_with fail
      refine Calls.mono (ended_any R s q wA hS.1) ?_
      rintro e w1 ⟨rfl, hn⟩
      have hS := hS.no hn
      rw [HEQ.out]
      clear hn
      go_wp2_with fail
      refine ⟨rfl, hK _ _ hS ?_⟩
      clear hK K
      refine MixH.takes [false, false, true, true, true, true, true, false, true, true, true, false, false, false, true] 6 (by kernel_rfl) (by kernel_rfl) (by decide) (by kernel_rfl) hS (fun K hK => ?_)
      simp only [Mix.pick]
      repeat (go_big_quiet_step (fail))
      refine wpQuiet_nil (hK _ ?_)
      clear hK K
      refine MixH.take 5 7 _ (.string s) rfl (by kernel_rfl) (by kernel_rfl) (by kernel_rfl) (by kernel_rfl) (yields_str (.tmp 17) rfl ⟨R, 0, none⟩ (.string s) rfl rfl (fun A hA => hA.1.c0)) hS (fun a' ha => ?_)
      simp only [Act.put, List.setIfInBounds_toArray, List.set_cons_succ, List.set_cons_zero] at ha
      subst ha
      refine MixH.take 4 11 _ (.int .i64 (q : Nat)) rfl (by kernel_rfl) (by kernel_rfl) (by kernel_rfl) (by kernel_rfl) (yields_int (.tmp 21) rfl ⟨R, 1, none⟩ (.int .i64 (q : Nat)) rfl rfl (fun A hA => hA.1.c1)) hS (fun a' ha => ?_)
      simp only [Act.put, List.setIfInBounds_toArray, List.set_cons_succ, List.set_cons_zero] at ha
      subst ha
      refine MixH.one [false, false, false, false, false, false, false, false, false, false, false, false, true] 3 12 _ rfl rfl (by kernel_rfl) (by kernel_rfl) (fun K hK => ?_)
      simp only [Mix.pick]
      go_wp2_with (refine wpList_sB (.tmp 18) (.tmp 22) rfl s q _ rfl rfl rfl HLT.out rfl ?_)
      go_wp2_with fail
      refine ⟨rfl, hK _ _ hS ?_⟩
      clear hK K
      refine MixH.one [false, false, false, false, false, false, false, false, false, false, false, false, false, true] 2 13 _ rfl rfl (by kernel_rfl) (by kernel_rfl) (fun K hK => ?_)
      simp only [Mix.pick]
      go_wp2_with fail
      refine Calls.mono (digit_any' (sB s q) w1 (sB_lt _ _)) ?_
      rintro e wz ⟨rfl, rfl⟩
      rw [HV.out]
      go_wp2_with fail
      refine ⟨rfl, hK _ _ hS ?_⟩
      clear hK K
      refine MixH.takes [false, false, false, false, false, false, false, false, false, false, false, false, false, false, false, true, true] 0 (by kernel_rfl) (by kernel_rfl) (by decide) (by kernel_rfl) hS (fun K hK => ?_)
      simp only [Mix.pick]
      repeat (go_big_quiet_step (fail))
      refine wpQuiet_nil (hK _ ?_)
      clear hK K
      refine MixH.done (by kernel_rfl) ?_
      have H1 : Hid (RdC w w1 R s q) := hS
      clear hS
      by_cases hvb : v < base
      · have d1 : decide ((v : Int) < (base : Int)) = true := decide_eq_true (by omega)
        have d2 : decide (v < base) = true := decide_eq_true hvb
        have d3 : (v : Int) < (base : Int) := by omega
        have HQ2 : Hid (scP s (dgF base) (q + 1) = scP s (dgF base) p) := by show _ = _; rw [← scP_step HLT.out (HF.out.trans d2)]; exact HQ.out
        have c1 := H1.out.1.c1
        have f1 := H1.out.1.fz 1
        have e1 : IntKind.i64.wrap ((q : Int) + 1) = (q : Int) + 1 := i64_s _ (by omega) (by have := HLT.out; have := HP.out; omega)
        have H2 : Hid (RdC w (w1.setCell ⟨R, 1, none⟩ (.int .i64 ((q : Int) + 1))) R s (q + 1)) := H1.out.set (q + 1)
        go_wp2
        go_roundw
        case rel => exact ⟨q + 1, by have := HQB.out; omega, HLT.out, HQ2.out, H2.out⟩
        case measure => rw [rdM_at H2.out.1, rdM_at HR.out.1]; have := HLT.out; omega
      · have d1 : decide ((v : Int) < (base : Int)) = false := decide_eq_false (by omega)
        have d2 : decide (v < base) = false := decide_eq_false hvb
        have d3 : ¬ (v : Int) < (base : Int) := by omega
        have HE : Hid (scP s (dgF base) p = q) := by show _ = _; rw [← HQ.out]; exact scP_stop (by rw [HF.out, d2]; simp)
        by_cases hqp : q = p
        · have e1 : ((q : Int) == (p : Int)) = true := by simp [hqp]
          have e2 : (q == p) = true := by simp [hqp]
          have HQP : Hid (q = p) := hqp
          clear hqp
          have c1 := H1.out.1.c1
          go_wp2_with fail
          refine (wrong_any R s q w1 H1.out.1 HQB.out.2).mono ?_
          rintro e w2 ⟨rfl, hn⟩
          have H2 : Hid (RdC w w2 R s q) := H1.out.no hn
          clear hn c1
          go_wp2
          refine bodyPost_ret (results_tmp2 rfl _ _ _) rfl ?_
          exact ⟨by rw [dgR_no (HE.out.trans HQP.out), ← HQP.out]; rfl, by rw [HE.out]; exact H2.out⟩
        · have HQN : Hid (q ≠ p) := hqp
          have e1 : ((q : Int) == (p : Int)) = false := by simp; omega
          have e2 : (q == p) = false := by simp [hqp]
          clear hqp
          have c1 := H1.out.1.c1
          have c0 := H1.out.1.c0
          have b1 : (0 : Int) ≤ (p : Int) := by omega
          have b2 : (p : Int) ≤ (q : Int) := by have := HQB.out; omega
          have b3 : (q : Int) ≤ (s.size : Int) := by have := HQB.out; omega
          go_wp2
          try go_region
          go_wp2
          refine bodyPost_ret (results_tmp2 rfl _ _ _) rfl ?_
          exact ⟨by rw [dgR_yes HE.out HQN.out]; rfl, by rw [HE.out]; exact H1.out.no (Ch.refl _ _).drew⟩
    · have HEQ : Hid ((q == s.size) = true) := by have := HQB.out; show _ = _; simp; omega
      have HE : Hid (scP s (dgF base) p = q) := by show _ = _; rw [← HQ.out]; exact scP_stop (by rw [decide_eq_false hlt]; rfl)
      clear hlt
      go_upto_region 2 with fail
      refine MixH.start (fun A => RdC w A R s q) (by kernel_rfl) ?_
      obtain ⟨wA, hwA⟩ : ∃ W_, W_ = wr.drew := ⟨_, rfl⟩
      have bdr : Below wr.heap.size wr wA := by rw [hwA]; exact (Below.refl _ _).drew
      have hS : RdC w wA R s q := HR.out.no (Ch.ofBelow bdr)
      rw [← hwA]
      clear hwA bdr
      refine MixH.takes [true] 16 (by kernel_rfl) (by kernel_rfl) (by decide) (by kernel_rfl) hS (fun K hK => ?_)
      simp only [Mix.pick]
      repeat (go_big_quiet_step (fail))
      refine wpQuiet_nil (hK _ ?_)
      clear hK K
      refine MixH.one [false, true] 15 1 _ rfl rfl (by kernel_rfl) (by kernel_rfl) (fun K hK => ?_)
      simp only [Mix.pick]
      go_wp2_with fail
      refine Calls.mono (ended_any R s q wA hS.1) ?_
      rintro e w1 ⟨rfl, hn⟩
      have hS := hS.no hn
      rw [HEQ.out]
      clear hn
      go_wp2_with fail
      refine ⟨rfl, hK _ _ hS ?_⟩
      clear hK K
      refine MixH.takes [false, false, true, true, true, true, true, false, true, true, true, false, false, false, true] 6 (by kernel_rfl) (by kernel_rfl) (by decide) (by kernel_rfl) hS (fun K hK => ?_)
      simp only [Mix.pick]
      repeat (go_big_quiet_step (fail))
      refine wpQuiet_nil (hK _ ?_)
      clear hK K
      refine MixH.take 5 7 _ (undef) rfl (by kernel_rfl) (by kernel_rfl) (by kernel_rfl) (by kernel_rfl) (.inr ⟨rfl, rfl⟩) hS (fun a' ha => ?_)
      simp only [Act.put, List.setIfInBounds_toArray, List.set_cons_succ, List.set_cons_zero] at ha
      subst ha
      refine MixH.take 4 11 _ (undef) rfl (by kernel_rfl) (by kernel_rfl) (by kernel_rfl) (by kernel_rfl) (.inr ⟨rfl, rfl⟩) hS (fun a' ha => ?_)
      simp only [Act.put, List.setIfInBounds_toArray, List.set_cons_succ, List.set_cons_zero] at ha
      subst ha
      refine MixH.takes [false, false, false, false, false, false, false, false, false, false, false, false, true] 3 (by kernel_rfl) (by kernel_rfl) (by decide) (by kernel_rfl) hS (fun K hK => ?_)
      simp only [Mix.pick]
      repeat (go_big_quiet_step (fail))
      refine wpQuiet_nil (hK _ ?_)
      clear hK K
      refine MixH.take 2 13 _ (undef) rfl (by kernel_rfl) (by kernel_rfl) (by kernel_rfl) (by kernel_rfl) (.inr ⟨rfl, rfl⟩) hS (fun a' ha => ?_)
      simp only [Act.put, List.setIfInBounds_toArray, List.set_cons_succ, List.set_cons_zero] at ha
      subst ha
      refine MixH.takes [false, false, false, false, false, false, false, false, false, false, false, false, false, false, false, true, true] 0 (by kernel_rfl) (by kernel_rfl) (by decide) (by kernel_rfl) hS (fun K hK => ?_)
      simp only [Mix.pick]
      repeat (go_big_quiet_step (fail))
      refine wpQuiet_nil (hK _ ?_)
      clear hK K
      refine MixH.done (by kernel_rfl) ?_
      have H1 : Hid (RdC w w1 R s q) := hS
      clear hS
      by_cases hqp : q = p
      · have e1 : ((q : Int) == (p : Int)) = true := by simp [hqp]
        have e2 : (q == p) = true := by simp [hqp]
        have HQP : Hid (q = p) := hqp
        clear hqp
        have c1 := H1.out.1.c1
        go_wp2_with fail
        refine (wrong_any R s q w1 H1.out.1 HQB.out.2).mono ?_
        rintro e w2 ⟨rfl, hn⟩
        have H2 : Hid (RdC w w2 R s q) := H1.out.no hn
        clear hn c1
        go_wp2
        refine bodyPost_ret (results_tmp2 rfl _ _ _) rfl ?_
        exact ⟨by rw [dgR_no (HE.out.trans HQP.out), ← HQP.out]; rfl, by rw [HE.out]; exact H2.out⟩
      · have HQN : Hid (q ≠ p) := hqp
        have e1 : ((q : Int) == (p : Int)) = false := by simp; omega
        have e2 : (q == p) = false := by simp [hqp]
        clear hqp
        have c1 := H1.out.1.c1
        have c0 := H1.out.1.c0
        have b1 : (0 : Int) ≤ (p : Int) := by omega
        have b2 : (p : Int) ≤ (q : Int) := by have := HQB.out; omega
        have b3 : (q : Int) ≤ (s.size : Int) := by have := HQB.out; omega
        go_wp2
        try go_region
        go_wp2
        refine bodyPost_ret (results_tmp2 rfl _ _ _) rfl ?_
        exact ⟨by rw [dgR_yes HE.out HQN.out]; rfl, by rw [HE.out]; exact H1.out.no (Ch.refl _ _).drew⟩
end Go.Proofs.YteldiggaooeeeaaGreatDoor
namespace Go.Proofs.YteldiggaooeeeaaGreatDoor
open Go.RowKit Go.Maps

theorem cutB_size {s : ByteArray} {p q : Nat} (h1 : p ≤ q) (h2 : q ≤ s.size) : (cutB s p q).size = q - p := by
  unfold cutB
  rw [ByteArray.size_extract]
  omega
theorem sB_cut {s : ByteArray} {p q k : Nat} (_h2 : q ≤ s.size) (hk : k < q - p) : sB (cutB s p q) k = sB s (p + k) := by
  unfold sB cutB
  rw [ByteArray.data_extract, Array.toList_extract, List.extract_eq_take_drop, List.getD_eq_getElem?_getD, List.getElem?_take, if_pos hk, List.getElem?_drop, ← List.getD_eq_getElem?_getD]
theorem scn_all (s : ByteArray) (f : Nat → Bool) : ∀ n p i, p ≤ i → i < scn s f n p → f (sB s i) = true
  | 0, p, i, h1, h2 => by have : scn s f 0 p = p := rfl; omega
  | n + 1, p, i, h1, h2 => by
    unfold scn at h2
    split at h2
    · rename_i h
      simp at h
      by_cases hp : i = p
      · rw [hp]; exact h.2
      · exact scn_all s f n (p + 1) i (by omega) h2
    · omega
theorem scP_all {s : ByteArray} {f : Nat → Bool} {p i : Nat} (h1 : p ≤ i) (h2 : i < scP s f p) : f (sB s i) = true := scn_all s f _ p i h1 h2
theorem vlN_dc {s : ByteArray} {p q : Nat} (h2 : q ≤ s.size) (hd : ∀ i, p ≤ i → i < q → dgB (sB s i) = true) : ∀ k, k ≤ q - p → vlN (cutB s p q) 10 k = dcN s p k
  | 0, _ => rfl
  | k + 1, hk => by
    unfold vlN dcN
    rw [vlN_dc h2 hd k (by omega), sB_cut h2 (by omega)]
    have h3 := hd (p + k) (by omega) (by omega)
    have h4 : dgV (sB s (p + k)) = sB s (p + k) - 48 := by unfold dgV; rw [if_pos h3]
    rw [h4]
    omega
theorem vlN_hx {s : ByteArray} {p q : Nat} (h2 : q ≤ s.size) (hd : ∀ i, p ≤ i → i < q → hxB (sB s i) = true) : ∀ k, k ≤ q - p → vlN (cutB s p q) 16 k = hxN s p k
  | 0, _ => rfl
  | k + 1, hk => by
    unfold vlN hxN
    rw [vlN_hx h2 hd k (by omega), sB_cut h2 (by omega)]
    rw [dgV_wth (hd (p + k) (by omega) (by omega))]
    omega
/-- what number answers, and where it stands then -/
def nmO (s : ByteArray) (p most : Nat) : Bool := scP s dgB p == p || decide (dcm s p (scP s dgB p) most < 0)
def nmR (s : ByteArray) (p most : Nat) (why : Int) : Value := if scP s dgB p == p then .tuple #[.int .i64 0, .int .i64 ((hrE s p).1 : Nat)] else if decide (dcm s p (scP s dgB p) most < 0) then .tuple #[.int .i64 0, .int .i64 why] else .tuple #[.int .i64 (dcm s p (scP s dgB p) most), .int .i64 0]
def nmP (s : ByteArray) (p most : Nat) : Nat := if nmO s p most then p else scP s dgB p
theorem nm_no {s : ByteArray} {p most : Nat} {why : Int} (h : scP s dgB p = p) : nmR s p most why = .tuple #[.int .i64 0, .int .i64 ((hrE s p).1 : Nat)] ∧ nmP s p most = p := by unfold nmP nmR nmO; rw [h]; simp
theorem nm_why {s : ByteArray} {p q most : Nat} {why : Int} (h : scP s dgB p = q) (hq : q ≠ p) (hd : dcm s p q most < 0) : nmR s p most why = .tuple #[.int .i64 0, .int .i64 why] ∧ nmP s p most = p := by
  unfold nmP nmR nmO
  rw [h, if_neg (by simpa using hq), decide_eq_true hd]
  simp
theorem nm_yes {s : ByteArray} {p q most : Nat} {why : Int} (h : scP s dgB p = q) (hq : q ≠ p) (hd : ¬ dcm s p q most < 0) : nmR s p most why = .tuple #[.int .i64 (dcm s p q most), .int .i64 0] ∧ nmP s p most = q := by
  unfold nmP nmR nmO
  rw [h, if_neg (by simpa using hq), decide_eq_false hd]
  simp [hq]
set_option maxHeartbeats 1600000 in
set_option maxRecDepth 100000 in
theorem number_any (R : Nat) (s : ByteArray) (p most : Nat) (why : Int) (w : World) (h : RdAt w R s p) (hp : p ≤ s.size) (hs : s.size ≤ 1000) : Calls Tryz.prog 36 #[.pointer (some ⟨R, 0, none⟩), .int .i64 (most : Nat), .int .i64 why] w fun r w' => r = .returned (nmR s p most why) ∧ RdC w w' R s (nmP s p most) := by
  have H : Hid (RdC w w R s p) := RdC.start h
  have HP : Hid (p ≤ s.size ∧ s.size ≤ 1000) := ⟨hp, hs⟩
  have c1 := h.c1
  obtain ⟨q, hq⟩ : ∃ q, scP s dgB p = q := ⟨_, rfl⟩
  have HQ : Hid (scP s dgB p = q ∧ scP s (dgF 10) p = q) := ⟨hq, by rw [dgF_ten]; exact hq⟩
  have HQB : Hid (p ≤ q ∧ q ≤ s.size) := ⟨by rw [← hq]; exact scP_ge _ _ _, by rw [← hq]; exact scP_le hp⟩
  have HDG : Hid (∀ i, p ≤ i → i < q → dgB (sB s i) = true) := fun i h1 h2 => scP_all h1 (by rw [hq]; exact h2)
  clear h hp hs hq
  go_enter Tryz.func36, Tryz.ntmps36
  go_wp2_with fail
  refine (digits_any R s p 10 w H.out.1 HP.out.1 HP.out.2).mono ?_
  rintro e w1 ⟨rfl, hn⟩
  have H1 : Hid (RdC w w1 R s q) := H.out.to (by rw [HQ.out.2] at hn; exact hn)
  clear hn c1
  by_cases hqp : q = p
  · have HQP : Hid (q = p) := hqp
    rw [dgR_no (HQ.out.2.trans hqp)]
    obtain ⟨er, her⟩ : ∃ er : Nat, er = (hrE s p).1 := ⟨_, rfl⟩
    have HER : Hid (er = (hrE s p).1) := her
    have e1 : (((er : Nat) : Int) != 0) = true := by rw [her]; unfold hrE; split <;> rfl
    rw [← her]
    clear hqp her
    go_wp2
    refine bodyPost_ret (results_tmp2 rfl _ _ _) rfl ?_
    have hz := nm_no (most := most) (why := why) (HQ.out.1.trans HQP.out)
    exact ⟨by rw [hz.1, ← HER.out]; rfl, by rw [hz.2, ← HQP.out]; exact H1.out⟩
  · have HQN : Hid (q ≠ p) := hqp
    rw [dgR_yes HQ.out.2 hqp]
    obtain ⟨d, hd⟩ : ∃ d, d = cutB s p q := ⟨_, rfl⟩
    have HD : Hid (d = cutB s p q ∧ d.size = q - p) := ⟨hd, by rw [hd]; exact cutB_size HQB.out.1 HQB.out.2⟩
    rw [← hd]
    clear hqp hd
    by_cases h3 : 3 < q - p
    · have q3 : decide ((3 : Int) < (d.size : Int)) = true := decide_eq_true (by have := HD.out.2; omega)
      have q4 : decide (3 < d.size) = true := decide_eq_true (by have := HD.out.2; omega)
      have HZ : Hid (nmR s p most why = .tuple #[.int .i64 0, .int .i64 why] ∧ nmP s p most = p) := nm_why HQ.out.1 HQN.out (by unfold dcm; rw [decide_eq_true h3]; simp)
      clear h3
      go_wp2_with fail
      refine (refuse_any R s q p why w1 H1.out.1).mono ?_
      rintro e w2 ⟨rfl, k1, k2⟩
      have H2 : Hid (RdC w w2 R s p) := H1.out.to ⟨k1, k2⟩
      clear k1 k2
      go_wp2
      refine bodyPost_ret (results_tmp2 rfl _ _ _) rfl ?_
      exact ⟨by rw [HZ.out.1]; rfl, by rw [HZ.out.2]; exact H2.out⟩
    · have q3 : decide ((3 : Int) < (d.size : Int)) = false := decide_eq_false (by have := HD.out.2; omega)
      have q4 : decide (3 < d.size) = false := decide_eq_false (by have := HD.out.2; omega)
      have H3 : Hid (q - p ≤ 3) := by show _ ≤ _; omega
      have HF : Hid (decide (3 < q - p) = false) := decide_eq_false h3
      have HL : Hid (0 < d.size) := by have h1 := HD.out.2; have h2 := HQB.out; have h3 := HQN.out; show _ < _; omega
      have HS0 : Hid (sB d 0 = sB s p) := by show _ = _; rw [HD.out.1, sB_cut HQB.out.2 (by have h1 := HD.out.2; have := HL.out; omega)]; rfl
      clear h3
      obtain ⟨b, hb⟩ : ∃ b, (decide (1 < q - p) && sB s p == 48) = b := ⟨_, rfl⟩
      have HB : Hid ((decide (1 < q - p) && sB s p == 48) = b) := hb
      clear hb
      cases b with
      | true =>
        have h := HB.out
        simp at h
        have q5 : decide ((1 : Int) < (d.size : Int)) = true := decide_eq_true (by have := HD.out.2; omega)
        have q6 : decide (1 < d.size) = true := decide_eq_true (by have := HD.out.2; omega)
        have q7 : (((sB d 0 : Nat) : Int) == 48) = true := by rw [HS0.out]; simp [h.2]
        have HZ : Hid (nmR s p most why = .tuple #[.int .i64 0, .int .i64 why] ∧ nmP s p most = p) := nm_why HQ.out.1 HQN.out (by unfold dcm; rw [HB.out]; simp)
        clear h
        go_wp2_with (refine wpList_sB (.tmp 31) (.const (.int .i64 0)) rfl d 0 _ rfl rfl rfl HL.out rfl ?_)
        refine (refuse_any R s q p why w1 H1.out.1).mono ?_
        rintro e w2 ⟨rfl, k1, k2⟩
        have H2 : Hid (RdC w w2 R s p) := H1.out.to ⟨k1, k2⟩
        clear k1 k2
        go_wp2
        refine bodyPost_ret (results_tmp2 rfl _ _ _) rfl ?_
        exact ⟨by rw [HZ.out.1]; rfl, by rw [HZ.out.2]; exact H2.out⟩
      | false =>
        have HR : Hid (dcm s p q most = if most < dcN s p (q - p) then (-1 : Int) else ((dcN s p (q - p) : Nat) : Int)) := by show _ = _; unfold dcm; rw [HB.out, HF.out]; rfl
        obtain ⟨n, hn⟩ : ∃ n, vlN d 10 d.size = n := ⟨_, rfl⟩
        have HN : Hid (vlN d 10 d.size = n ∧ n = dcN s p (q - p)) := ⟨hn, by rw [← hn, HD.out.2, HD.out.1]; exact vlN_dc HQB.out.2 HDG.out _ (Nat.le_refl _)⟩
        clear hn
        by_cases hm : most < n
        · have m1 : decide ((most : Int) < (n : Int)) = true := decide_eq_true (by omega)
          have m2 : decide (most < n) = true := decide_eq_true hm
          have HZ : Hid (nmR s p most why = .tuple #[.int .i64 0, .int .i64 why] ∧ nmP s p most = p) := nm_why HQ.out.1 HQN.out (by rw [HR.out, if_pos (by rw [← HN.out.2]; exact hm)]; decide)
          clear hm
          by_cases h1 : 1 < d.size
          · have q5 : decide ((1 : Int) < (d.size : Int)) = true := decide_eq_true (by omega)
            have q6 : decide (1 < d.size) = true := decide_eq_true h1
            have q7 : (((sB d 0 : Nat) : Int) == 48) = false := by have := HB.out; have h2 := HD.out.2; rw [decide_eq_true (by omega)] at this; simp at this; rw [HS0.out]; simp; omega
            clear h1
            go_wp2_with (refine wpList_sB (.tmp 31) (.const (.int .i64 0)) rfl d 0 _ rfl rfl rfl HL.out rfl ?_)
            refine (value_any d 10 w1 (by have := HD.out.2; have := H3.out; omega) (by decide)).mono ?_
            rintro e wz ⟨rfl, rfl⟩
            rw [HN.out.1]
            go_wp2_with fail
            refine (refuse_any R s q p why w1 H1.out.1).mono ?_
            rintro e w2 ⟨rfl, k1, k2⟩
            have H2 : Hid (RdC w w2 R s p) := H1.out.to ⟨k1, k2⟩
            clear k1 k2
            go_wp2
            refine bodyPost_ret (results_tmp2 rfl _ _ _) rfl ?_
            exact ⟨by rw [HZ.out.1]; rfl, by rw [HZ.out.2]; exact H2.out⟩
          · have q5 : decide ((1 : Int) < (d.size : Int)) = false := decide_eq_false (by omega)
            have q6 : decide (1 < d.size) = false := decide_eq_false h1
            clear h1
            go_wp2_with fail
            refine (value_any d 10 w1 (by have := HD.out.2; have := H3.out; omega) (by decide)).mono ?_
            rintro e wz ⟨rfl, rfl⟩
            rw [HN.out.1]
            go_wp2_with fail
            refine (refuse_any R s q p why w1 H1.out.1).mono ?_
            rintro e w2 ⟨rfl, k1, k2⟩
            have H2 : Hid (RdC w w2 R s p) := H1.out.to ⟨k1, k2⟩
            clear k1 k2
            go_wp2
            refine bodyPost_ret (results_tmp2 rfl _ _ _) rfl ?_
            exact ⟨by rw [HZ.out.1]; rfl, by rw [HZ.out.2]; exact H2.out⟩
        · have m1 : decide ((most : Int) < (n : Int)) = false := decide_eq_false (by omega)
          have m2 : decide (most < n) = false := decide_eq_false hm
          have HY : Hid (dcm s p q most = (n : Int)) := by show _ = _; rw [HR.out, if_neg (by rw [← HN.out.2]; exact hm), HN.out.2]
          have HZ : Hid (nmR s p most why = .tuple #[.int .i64 (n : Int), .int .i64 0] ∧ nmP s p most = q) := by have := nm_yes (why := why) HQ.out.1 HQN.out (by rw [HY.out]; omega); rw [HY.out] at this; exact this
          clear hm
          by_cases h1 : 1 < d.size
          · have q5 : decide ((1 : Int) < (d.size : Int)) = true := decide_eq_true (by omega)
            have q6 : decide (1 < d.size) = true := decide_eq_true h1
            have q7 : (((sB d 0 : Nat) : Int) == 48) = false := by have := HB.out; have h2 := HD.out.2; rw [decide_eq_true (by omega)] at this; simp at this; rw [HS0.out]; simp; omega
            clear h1
            go_wp2_with (refine wpList_sB (.tmp 31) (.const (.int .i64 0)) rfl d 0 _ rfl rfl rfl HL.out rfl ?_)
            refine (value_any d 10 w1 (by have := HD.out.2; have := H3.out; omega) (by decide)).mono ?_
            rintro e wz ⟨rfl, rfl⟩
            rw [HN.out.1]
            go_wp2_with fail
            refine (value_any d 10 w1 (by have := HD.out.2; have := H3.out; omega) (by decide)).mono ?_
            rintro e wz ⟨rfl, rfl⟩
            rw [HN.out.1]
            go_wp2
            refine bodyPost_ret (results_tmp2 rfl _ _ _) rfl ?_
            exact ⟨by rw [HZ.out.1]; rfl, by rw [HZ.out.2]; exact H1.out⟩
          · have q5 : decide ((1 : Int) < (d.size : Int)) = false := decide_eq_false (by omega)
            have q6 : decide (1 < d.size) = false := decide_eq_false h1
            clear h1
            go_wp2_with fail
            refine (value_any d 10 w1 (by have := HD.out.2; have := H3.out; omega) (by decide)).mono ?_
            rintro e wz ⟨rfl, rfl⟩
            rw [HN.out.1]
            go_wp2_with fail
            refine (value_any d 10 w1 (by have := HD.out.2; have := H3.out; omega) (by decide)).mono ?_
            rintro e wz ⟨rfl, rfl⟩
            rw [HN.out.1]
            go_wp2
            refine bodyPost_ret (results_tmp2 rfl _ _ _) rfl ?_
            exact ⟨by rw [HZ.out.1]; rfl, by rw [HZ.out.2]; exact H1.out⟩
end Go.Proofs.YteldiggaooeeeaaGreatDoor
namespace Go.Proofs.YteldiggaooeeeaaGreatDoor
open Go.RowKit Go.Maps

/-- bytes written into a block's cells from o on -/
def wrL (C : Array Value) (o : Nat) (l : List Nat) : Array Value := (List.range l.length).foldl (fun A k => A.setIfInBounds (o + k) (.int .u8 (l.getD k 0 : Nat))) C
theorem wrL_nil (C : Array Value) (o : Nat) : wrL C o [] = C := rfl
theorem wrL_pre (C : Array Value) (o : Nat) (l : List Nat) (n : Nat) : ∀ m, m ≤ l.length → (List.range m).foldl (fun A k => A.setIfInBounds (o + k) (.int .u8 ((l ++ [n]).getD k 0 : Nat))) C = (List.range m).foldl (fun A k => A.setIfInBounds (o + k) (.int .u8 (l.getD k 0 : Nat))) C
  | 0, _ => rfl
  | m + 1, h => by
    rw [List.range_succ, List.foldl_append, List.foldl_append, wrL_pre C o l n m (by omega)]
    simp only [List.foldl_cons, List.foldl_nil]
    rw [List.getD_eq_getElem?_getD, List.getElem?_append_left (by omega), ← List.getD_eq_getElem?_getD]
theorem wrL_snoc (C : Array Value) (o : Nat) (l : List Nat) (n : Nat) : wrL C o (l ++ [n]) = (wrL C o l).setIfInBounds (o + l.length) (.int .u8 (n : Nat)) := by
  unfold wrL
  rw [List.length_append, List.length_cons, List.length_nil, List.range_succ, List.foldl_append, wrL_pre C o l n l.length (Nat.le_refl _)]
  simp only [List.foldl_cons, List.foldl_nil]
  rw [List.getD_eq_getElem?_getD, List.getElem?_append_right (Nat.le_refl _), Nat.sub_self]
  rfl
theorem wrL_fold (C : Array Value) (o : Nat) (l : List Nat) : ∀ m i, m ≤ i → ((List.range m).foldl (fun A k => A.setIfInBounds (o + k) (.int .u8 (l.getD k 0 : Nat))) C)[o + i]? = C[o + i]?
  | 0, _, _ => rfl
  | m + 1, i, h => by
    rw [List.range_succ, List.foldl_append]
    simp only [List.foldl_cons, List.foldl_nil]
    rw [Array.getElem?_setIfInBounds_ne (by omega)]
    exact wrL_fold C o l m i (by omega)
theorem wrL_at (C : Array Value) (o : Nat) (l : List Nat) {i : Nat} (h : l.length ≤ i) : (wrL C o l)[o + i]? = C[o + i]? := wrL_fold C o l l.length i h
/-- four's loop, behind i numbers -/
def dtA (s : ByteArray) (i q : Nat) (l : List Nat) : Sum (List Nat) (Nat × Nat) := if i == 0 then dtd s 4 q l else if i == 4 then dtd s 0 q l else if decide (s.size ≤ q) || sB s q != 46 then .inr (hrE s q) else dtd s (4 - i) (q + 1) l
theorem dtA_dot {s : ByteArray} {i q : Nat} {l : List Nat} (hi : i < 4) (h0 : i ≠ 0) (h : (decide (q < s.size) && sB s q == 46) = false) : dtA s i q l = .inr (hrE s q) := by
  unfold dtA
  rw [if_neg (by simp [h0]), if_neg (by simp; omega), if_pos]
  simp at h ⊢
  omega
theorem dtA_go {s : ByteArray} {i q : Nat} {l : List Nat} (hi : i < 4) (h0 : i ≠ 0) (h : (decide (q < s.size) && sB s q == 46) = true) : dtA s i q l = dtd s (4 - i) (q + 1) l := by
  unfold dtA
  rw [if_neg (by simp [h0]), if_neg (by simp; omega), if_neg]
  simp at h ⊢
  omega
theorem dtA_zero (s : ByteArray) (q : Nat) (l : List Nat) : dtA s 0 q l = dtd s 4 q l := rfl
theorem dtd_no {s : ByteArray} {m p : Nat} {l : List Nat} (h : scP s dgB p = p) : dtd s (m + 1) p l = .inr (hrE s p) := by
  unfold dtd
  rw [h, if_pos (by simp)]
theorem dtd_why {s : ByteArray} {m p q : Nat} {l : List Nat} (h : scP s dgB p = q) (hq : q ≠ p) (hd : dcm s p q 255 < 0) : dtd s (m + 1) p l = .inr (43, p) := by
  unfold dtd
  rw [h, if_neg (by simpa using hq), if_pos (by simpa using hd)]
theorem dtd_yes {s : ByteArray} {i p q n : Nat} {l : List Nat} (hi : i < 4) (h : scP s dgB p = q) (hq : q ≠ p) (hd : dcm s p q 255 = (n : Int)) : dtd s (4 - i) p l = dtA s (i + 1) q (l ++ [n]) := by
  obtain ⟨m, hm⟩ : ∃ m, 4 - i = m + 1 := ⟨3 - i, by omega⟩
  have e1 : (q == p) = false := by simp [hq]
  have e2 : decide ((n : Int) < 0) = false := decide_eq_false (by omega)
  have e3 : (i + 1 == 0) = false := by simp
  rw [hm]
  unfold dtA
  conv => lhs; unfold dtd
  rw [h, hd, e1, e2, e3]
  simp only [Bool.false_eq_true, if_false, Int.toNat_natCast]
  by_cases h3 : i = 3
  · have : m = 0 := by omega
    subst this
    subst h3
    rfl
  · have e4 : (m == 0) = false := by simp; omega
    have e5 : (i + 1 == 4) = false := by simp; omega
    rw [e4, e5, show 4 - (i + 1) = m by omega]
/-- what four answers -/
def FrR (s : ByteArray) (p0 R P o : Nat) (C : Array Value) (t : TypeId) (r : Ending) (w' : World) : Prop := match dtd s 4 p0 [] with
  | .inr e => r = .returned (.int .i64 (e.1 : Nat)) ∧ RdAt w' R s e.2
  | .inl l => r = .returned (.int .i64 0) ∧ RdAt w' R s s.size ∧ w'.heap[P]? = some (.cells (wrL C o l) t (0, 0))
theorem FrR.no {s : ByteArray} {p0 R P o : Nat} {C : Array Value} {t : TypeId} {r : Ending} {w' : World} {e : Nat × Nat} (h : dtd s 4 p0 [] = .inr e) (hr : r = .returned (.int .i64 (e.1 : Nat))) (hw : RdAt w' R s e.2) : FrR s p0 R P o C t r w' := by unfold FrR; rw [h]; exact ⟨hr, hw⟩
theorem FrR.yes {s : ByteArray} {p0 R P o : Nat} {C : Array Value} {t : TypeId} {r : Ending} {w' : World} {l : List Nat} (h : dtd s 4 p0 [] = .inl l) (hr : r = .returned (.int .i64 0)) (hw : RdAt w' R s s.size) (hP : w'.heap[P]? = some (.cells (wrL C o l) t (0, 0))) : FrR s p0 R P o C t r w' := by unfold FrR; rw [h]; exact ⟨hr, hw, hP⟩
/-- the reader and the block beside it -/
def RP (w A : World) (R P : Nat) (s : ByteArray) (p : Nat) (C : Array Value) (t : TypeId) : Prop := RdAt A R s p ∧ A.heap[P]? = some (.cells C t (0, 0)) ∧ Ch (fun k => k = R ∨ k = P) w A
theorem RP.rd {w A B : World} {R P : Nat} {s : ByteArray} {p q : Nat} {C : Array Value} {t : TypeId} (h : RP w A R P s p C t) (hne : P ≠ R) (c : RdC A B R s q) : RP w B R P s q C t :=
  ⟨c.1, (c.2.block P (Array.getElem?_eq_some_iff.1 h.2.1).1 hne).trans h.2.1, h.2.2.trans c.2 (fun _ _ h => .inl h)⟩
theorem RP.no {w A B : World} {R P : Nat} {s : ByteArray} {p : Nat} {C : Array Value} {t : TypeId} (h : RP w A R P s p C t) (hne : P ≠ R) (c : NoCh A B) : RP w B R P s p C t := h.rd hne ⟨rd_no h.1 c, c.mono (fun _ _ h => h.elim)⟩
theorem RP.cell {w A : World} {R P : Nat} {s : ByteArray} {p : Nat} {C : Array Value} {t : TypeId} (h : RP w A R P s p C t) (i : Nat) : A.cell? ⟨P, i, none⟩ = C[i]? := by have := h.2.1; simp [World.cell?, this]
theorem RP.fz {w A : World} {R P : Nat} {s : ByteArray} {p : Nat} {C : Array Value} {t : TypeId} (h : RP w A R P s p C t) (i : Nat) : A.frozen? ⟨P, i, none⟩ = false := by have := h.2.1; simp [World.frozen?, this]
theorem RP.set {w A : World} {R P : Nat} {s : ByteArray} {p : Nat} {C : Array Value} {t : TypeId} (h : RP w A R P s p C t) (hne : P ≠ R) (i : Nat) (v : Value) : RP w (A.setCell ⟨P, i, none⟩ v) R P s p (C.setIfInBounds i v) t :=
  ⟨h.1.ch ((Ch.refl (fun k => k = P) A).set ⟨P, i, none⟩ v rfl) (fun e => hne e.symm), heap_setCell_same A P i C _ v h.2.1, h.2.2.set ⟨P, i, none⟩ v (.inr rfl)⟩
set_option maxHeartbeats 1600000 in
set_option maxRecDepth 100000 in
theorem four_any (R P o cap : Nat) (s : ByteArray) (p0 : Nat) (C : Array Value) (t : TypeId) (w : World) (h : RdAt w R s p0) (hP : w.heap[P]? = some (.cells C t (0, 0))) (hne : P ≠ R) (hC : ∀ k, k < 4 → ∃ z, C[o + k]? = some (.int .u8 z)) (hp : p0 ≤ s.size) (hs : s.size ≤ 1000) : Calls Tryz.prog 17 #[.pointer (some ⟨R, 0, none⟩), .slice (some ⟨P, o, none⟩) 4 cap] w fun r w' => FrR s p0 R P o C t r w' ∧ Ch (fun k => k = R ∨ k = P) w w' := by
  have H : Hid (RP w w R P s p0 C t) := ⟨h, hP, Ch.refl _ _⟩
  have HNE : Hid (P ≠ R) := hne
  have HC : Hid (∀ k, k < 4 → ∃ z, C[o + k]? = some (.int .u8 z)) := hC
  have HP : Hid (p0 ≤ s.size ∧ s.size ≤ 1000) := ⟨hp, hs⟩
  clear h hP hne hC hp hs
  go_enter Tryz.func17, Tryz.ntmps17
  go_wp2
  go_loopw [10] (fun ix wr => ∃ (i q : Nat) (l : List Nat), i ≤ 4 ∧ ix = .int .i64 (i : Nat) ∧ Hid (l.length = i ∧ q ≤ s.size ∧ dtA s i q l = dtd s 4 p0 []) ∧ Hid (RP w wr R P s q (wrL C o l) t)) (fun ix _ => 4 - (intOf ix).toNat)
  case atStart => exact ⟨0, p0, [], by omega, rfl, ⟨rfl, HP.out.1, rfl⟩, H.out⟩
  case round =>
    obtain ⟨i, q, l, hi4, rfl, HD, HR⟩ := hrel
    have HI4 : Hid (i ≤ 4) := hi4
    clear hi4
    by_cases hlt : i < 4
    · have p1 : decide ((i : Int) < 4) = true := decide_eq_true (by omega)
      have p2 : decide (i < 4) = true := decide_eq_true hlt
      have p3 : (i : Int) < 4 := by omega
      have HLT : Hid (i < 4) := hlt
      have x3 : IntKind.i64.wrap ((i : Int) + 1) = (i : Int) + 1 := i64_s _ (by omega) (by omega)
      by_cases h0 : i = 0
      · have q1 : decide ((0 : Int) < (i : Int)) = false := decide_eq_false (by omega)
        have q2 : decide (0 < i) = false := decide_eq_false (by omega)
        have HD2 : Hid (l.length = i ∧ q ≤ s.size ∧ dtd s (4 - i) q l = dtd s 4 p0 []) := ⟨HD.out.1, HD.out.2.1, by rw [← HD.out.2.2, h0]; rfl⟩
        have HR2 : Hid (RP w wr R P s q (wrL C o l) t) := HR.out
        have HI0 : Hid (i = 0) := h0
        clear h0 hlt
        go_wp2_with fail
        refine (number_any R s q 255 43 wr HR2.out.1 HD2.out.2.1 HP.out.2).mono ?_
        rintro e w3 ⟨rfl, hn⟩
        have H3 : Hid (RP w w3 R P s (nmP s q 255) (wrL C o l) t) := HR2.out.rd HNE.out hn
        clear hn
        obtain ⟨z, hz⟩ : ∃ z, scP s dgB q = z := ⟨_, rfl⟩
        by_cases hzq : z = q
        · have hno := nm_no (most := 255) (why := 43) (hz.trans hzq)
          rw [hno.1]
          have HZ : Hid (dtd s 4 p0 [] = .inr (hrE s (q))) := by
            show _ = _
            rw [← HD2.out.2.2, show 4 - i = (3 - i) + 1 by have := HLT.out; omega]
            exact dtd_no (hz.trans hzq)
          have H4 : Hid (RP w w3 R P s (q) (wrL C o l) t) := by have := H3.out; rw [hno.2] at this; exact this
          obtain ⟨er, her⟩ : ∃ er : Nat, er = (hrE s (q)).1 := ⟨_, rfl⟩
          have HER : Hid (er = (hrE s (q)).1) := her
          have e1 : (((er : Nat) : Int) != 0) = true := by rw [her]; unfold hrE; split <;> rfl
          rw [← her]
          clear hno hz hzq her
          go_wp2
          go_ret
          exact ⟨FrR.no HZ.out (by rw [← HER.out]; rfl) (by have h1 := H4.out.1; have h2 := HD2.out.2.1; unfold hrE; split <;> first | exact h1 | (rw [show q = s.size by omega] at h1; exact h1)), H4.out.2.2⟩
        · by_cases hneg : dcm s (q) z 255 < 0
          · have hw := nm_why (why := 43) hz hzq hneg
            rw [hw.1]
            have HZ : Hid (dtd s 4 p0 [] = .inr (43, q)) := by
              show _ = _
              rw [← HD2.out.2.2, show 4 - i = (3 - i) + 1 by have := HLT.out; omega]
              exact dtd_why hz hzq hneg
            have H4 : Hid (RP w w3 R P s (q) (wrL C o l) t) := by have := H3.out; rw [hw.2] at this; exact this
            clear hw hz hzq hneg
            go_wp2
            go_ret
            exact ⟨FrR.no HZ.out rfl H4.out.1, H4.out.2.2⟩
          · have hy := nm_yes (why := 43) hz hzq hneg
            obtain ⟨n, hn⟩ : ∃ n : Nat, dcm s (q) z 255 = (n : Int) := ⟨(dcm s (q) z 255).toNat, by omega⟩
            rw [hn] at hy
            rw [hy.1]
            have HN : Hid (n ≤ 255) := by have : dcm s (q) z 255 ≤ 255 := dcm_le; show n ≤ 255; omega
            have HD3 : Hid ((l ++ [n]).length = i + 1 ∧ z ≤ s.size ∧ dtA s (i + 1) z (l ++ [n]) = dtd s 4 p0 []) := ⟨by simp [HD2.out.1], by rw [← hz]; exact scP_le HD2.out.2.1, by rw [← HD2.out.2.2]; exact (dtd_yes HLT.out hz hzq hn).symm⟩
            have H4 : Hid (RP w w3 R P s z (wrL C o l) t) := by have := H3.out; rw [hy.2] at this; exact this
            clear hy hz hzq hneg hn
            obtain ⟨y, hy⟩ := HC.out i HLT.out
            have cP : w3.cell? ⟨P, o + i, none⟩ = some (.int .u8 y) := by rw [H4.out.cell, wrL_at C o l (by have := HD2.out.1; omega)]; exact hy
            have fP := H4.out.fz (o + i)
            have H5 : Hid (RP w (w3.setCell ⟨P, o + i, none⟩ (.int .u8 (n : Nat))) R P s z (wrL C o (l ++ [n])) t) := by
              have h1 := H4.out.set HNE.out (o + i) (.int .u8 (n : Nat))
              show RP _ _ _ _ _ _ _ _
              rw [wrL_snoc, HD2.out.1]
              exact h1
            have x4 : IntKind.u8.wrap (n : Int) = (n : Int) := u8_s _ (by omega) (by have := HN.out; omega)
            have b0 : (0 : Int) ≤ (i : Int) := by omega
            clear hy
            go_wp2
            go_roundw
            case rel => exact ⟨i + 1, z, l ++ [n], HLT.out, by simp, HD3.out, H5.out⟩
            case measure => have := HLT.out; simp [intOf]; omega
      · have q1 : decide ((0 : Int) < (i : Int)) = true := decide_eq_true (by omega)
        have q2 : decide (0 < i) = true := decide_eq_true (by omega)
        have HI0 : Hid (i ≠ 0) := h0
        clear h0 hlt
        obtain ⟨b, hb⟩ : ∃ b, (decide (q < s.size) && sB s q == 46) = b := ⟨_, rfl⟩
        have HB : Hid ((decide (q < s.size) && sB s q == 46) = b) := hb
        have HB2 : Hid (stB s q ⟨#[46]⟩ = b) := (stB_one HD.out.2.1).trans hb
        clear hb
        go_wp2_with fail
        refine (skip_any R s ⟨#[46]⟩ q wr HR.out.1 HD.out.2.1 HP.out.2 (by decide)).mono ?_
        rintro e w1 ⟨rfl, k1, k2⟩
        rw [HB2.out] at k1 ⊢
        cases b with
        | false =>
          have H1 : Hid (RP w w1 R P s q (wrL C o l) t) := HR.out.rd HNE.out ⟨k1, k2⟩
          clear k1 k2
          have HZ : Hid (dtd s 4 p0 [] = .inr (hrE s q)) := HD.out.2.2.symm.trans (dtA_dot HLT.out HI0.out HB.out)
          go_wp2_with fail
          refine (wrong_any R s q w1 H1.out.1 HD.out.2.1).mono ?_
          rintro e w2 ⟨rfl, hn⟩
          have H2 : Hid (RP w w2 R P s q (wrL C o l) t) := H1.out.no HNE.out hn
          clear hn
          go_wp2
          go_ret
          exact ⟨FrR.no HZ.out rfl (by have h1 := H2.out.1; have h2 := HD.out.2.1; unfold hrE; split <;> first | exact h1 | (rw [show q = s.size by omega] at h1; exact h1)), H2.out.2.2⟩
        | true =>
          have HR2 : Hid (RP w w1 R P s (q + 1) (wrL C o l) t) := HR.out.rd HNE.out ⟨k1, k2⟩
          clear k1 k2
          have HD2 : Hid (l.length = i ∧ q + 1 ≤ s.size ∧ dtd s (4 - i) (q + 1) l = dtd s 4 p0 []) := ⟨HD.out.1, by have := HB.out; simp at this; omega, by rw [← HD.out.2.2]; exact (dtA_go HLT.out HI0.out HB.out).symm⟩
          go_wp2_with fail
          refine (number_any R s (q + 1) 255 43 w1 HR2.out.1 HD2.out.2.1 HP.out.2).mono ?_
          rintro e w3 ⟨rfl, hn⟩
          have H3 : Hid (RP w w3 R P s (nmP s (q + 1) 255) (wrL C o l) t) := HR2.out.rd HNE.out hn
          clear hn
          obtain ⟨z, hz⟩ : ∃ z, scP s dgB (q + 1) = z := ⟨_, rfl⟩
          by_cases hzq : z = (q + 1)
          · have hno := nm_no (most := 255) (why := 43) (hz.trans hzq)
            rw [hno.1]
            have HZ : Hid (dtd s 4 p0 [] = .inr (hrE s ((q + 1)))) := by
              show _ = _
              rw [← HD2.out.2.2, show 4 - i = (3 - i) + 1 by have := HLT.out; omega]
              exact dtd_no (hz.trans hzq)
            have H4 : Hid (RP w w3 R P s ((q + 1)) (wrL C o l) t) := by have := H3.out; rw [hno.2] at this; exact this
            obtain ⟨er, her⟩ : ∃ er : Nat, er = (hrE s ((q + 1))).1 := ⟨_, rfl⟩
            have HER : Hid (er = (hrE s ((q + 1))).1) := her
            have e1 : (((er : Nat) : Int) != 0) = true := by rw [her]; unfold hrE; split <;> rfl
            rw [← her]
            clear hno hz hzq her
            go_wp2
            go_ret
            exact ⟨FrR.no HZ.out (by rw [← HER.out]; rfl) (by have h1 := H4.out.1; have h2 := HD2.out.2.1; unfold hrE; split <;> first | exact h1 | (rw [show (q + 1) = s.size by omega] at h1; exact h1)), H4.out.2.2⟩
          · by_cases hneg : dcm s ((q + 1)) z 255 < 0
            · have hw := nm_why (why := 43) hz hzq hneg
              rw [hw.1]
              have HZ : Hid (dtd s 4 p0 [] = .inr (43, (q + 1))) := by
                show _ = _
                rw [← HD2.out.2.2, show 4 - i = (3 - i) + 1 by have := HLT.out; omega]
                exact dtd_why hz hzq hneg
              have H4 : Hid (RP w w3 R P s ((q + 1)) (wrL C o l) t) := by have := H3.out; rw [hw.2] at this; exact this
              clear hw hz hzq hneg
              go_wp2
              go_ret
              exact ⟨FrR.no HZ.out rfl H4.out.1, H4.out.2.2⟩
            · have hy := nm_yes (why := 43) hz hzq hneg
              obtain ⟨n, hn⟩ : ∃ n : Nat, dcm s ((q + 1)) z 255 = (n : Int) := ⟨(dcm s ((q + 1)) z 255).toNat, by omega⟩
              rw [hn] at hy
              rw [hy.1]
              have HN : Hid (n ≤ 255) := by have : dcm s ((q + 1)) z 255 ≤ 255 := dcm_le; show n ≤ 255; omega
              have HD3 : Hid ((l ++ [n]).length = i + 1 ∧ z ≤ s.size ∧ dtA s (i + 1) z (l ++ [n]) = dtd s 4 p0 []) := ⟨by simp [HD2.out.1], by rw [← hz]; exact scP_le HD2.out.2.1, by rw [← HD2.out.2.2]; exact (dtd_yes HLT.out hz hzq hn).symm⟩
              have H4 : Hid (RP w w3 R P s z (wrL C o l) t) := by have := H3.out; rw [hy.2] at this; exact this
              clear hy hz hzq hneg hn
              obtain ⟨y, hy⟩ := HC.out i HLT.out
              have cP : w3.cell? ⟨P, o + i, none⟩ = some (.int .u8 y) := by rw [H4.out.cell, wrL_at C o l (by have := HD2.out.1; omega)]; exact hy
              have fP := H4.out.fz (o + i)
              have H5 : Hid (RP w (w3.setCell ⟨P, o + i, none⟩ (.int .u8 (n : Nat))) R P s z (wrL C o (l ++ [n])) t) := by
                have h1 := H4.out.set HNE.out (o + i) (.int .u8 (n : Nat))
                show RP _ _ _ _ _ _ _ _
                rw [wrL_snoc, HD2.out.1]
                exact h1
              have x4 : IntKind.u8.wrap (n : Int) = (n : Int) := u8_s _ (by omega) (by have := HN.out; omega)
              have b0 : (0 : Int) ≤ (i : Int) := by omega
              clear hy
              go_wp2
              go_roundw
              case rel => exact ⟨i + 1, z, l ++ [n], HLT.out, by simp, HD3.out, H5.out⟩
              case measure => have := HLT.out; simp [intOf]; omega
    · have HE : Hid (i = 4) := by have := HI4.out; show i = 4; omega
      have p1 : decide ((i : Int) < 4) = false := decide_eq_false (by omega)
      have p2 : decide (i < 4) = false := decide_eq_false hlt
      have p3 : ¬ (i : Int) < 4 := by omega
      obtain ⟨b, hb⟩ : ∃ b, (q == s.size) = b := ⟨_, rfl⟩
      have HB : Hid ((q == s.size) = b) := hb
      have HZ : Hid (dtd s 4 p0 [] = if decide (q < s.size) then .inr (41, q) else .inl l) := by show _ = _; rw [← HD.out.2.2, HE.out]; unfold dtA; rw [if_neg (by decide), if_pos (by decide)]; unfold dtd; rfl
      clear hlt hb
      go_wp2_with fail
      refine (end_any R s q wr HR.out.1).mono ?_
      rintro e w1 ⟨rfl, hn⟩
      have H1 : Hid (RP w w1 R P s q (wrL C o l) t) := HR.out.no HNE.out hn
      rw [HB.out]
      clear hn
      cases b with
      | true =>
        go_wp2
        go_ret
        have h1 := HB.out
        simp at h1
        subst h1
        exact ⟨FrR.yes (HZ.out.trans (by rw [decide_eq_false (by omega)]; rfl)) rfl H1.out.1 H1.out.2.1, H1.out.2.2⟩
      | false =>
        go_wp2
        go_ret
        have h1 := HB.out
        simp at h1
        exact ⟨FrR.no (HZ.out.trans (by rw [decide_eq_true (by have := HD.out.2.1; omega)]; rfl)) rfl H1.out.1, H1.out.2.2⟩
end Go.Proofs.YteldiggaooeeeaaGreatDoor
namespace Go.Proofs.YteldiggaooeeeaaGreatDoor
open Go.RowKit Go.Maps

/-- a text of bytes -/
def txB (L : List Nat) : ByteArray := ⟨(L.map UInt8.ofNat).toArray⟩
theorem txB_data (L : List Nat) : (txB L).data.toList = L.map UInt8.ofNat := by unfold txB; simp
theorem txB_size (L : List Nat) : (txB L).size = L.length := by show (txB L).data.size = _; unfold txB; simp
theorem txB_drp {L : List Nat} (h : ∀ x ∈ L, x < 256) : drp (txB L) 0 = L := by
  unfold drp
  rw [List.drop_zero, txB_data, List.map_map]
  conv => rhs; rw [← List.map_id L]
  refine List.map_congr_left fun x hx => ?_
  have := h x hx
  simp
  omega
theorem dec3_lt {c : Nat} (h : c < 256) : ∀ x ∈ dec3 c, x < 256 := fun x hx => by have := dec3_dg h x hx; simp [dgB] at this; omega
theorem dots_lt {a b c d : Nat} (ha : a < 256) (hb : b < 256) (hc : c < 256) (hd : d < 256) : ∀ x ∈ dots a b c d, x < 256 := fun x hx => by
  rcases dots_no ha hb hc hd hx with h | h
  · simp [dgB] at h; omega
  · omega
theorem dec3_lib {c : Nat} (h : c < 256) : Lib.decDigits c = (dec3 c).map UInt8.ofNat := by
  unfold dec3
  rw [Lib.decDigits]
  by_cases h1 : c < 10
  · rw [dif_pos h1, if_pos h1]; rfl
  · rw [dif_neg h1, if_neg h1, Lib.decDigits]
    by_cases h2 : c < 100
    · rw [dif_pos (by omega), if_pos h2]; rfl
    · rw [dif_neg (by omega), if_neg h2, Lib.decDigits, dif_pos (by omega)]
      simp [Nat.div_div_eq_div_mul]
theorem dec3_itoa {c : Nat} (h : c < 256) : (Lib.itoa (c : Int)).toArray = (txB (dec3 c)).data := by
  unfold Lib.itoa
  rw [if_neg (by omega), Int.toNat_natCast, dec3_lib h]
  rfl
/-- the library's table of powers lies where the program has it -/
def Pow (w : World) : Prop := Lib.TabIs Tryz.prog w "internal/strconv.uint64pow10" .u64 Lib.pow10Tab
theorem Pow.below {w w' : World} (h : Pow w) (b : Below w.heap.size w w') : Pow w' := Lib.tabBelow_of_tabIs h w' b
theorem itoa_byte (n : Nat) (hn : n < 256) (w : World) (hp : Pow w) : Calls Tryz.prog 38 #[.int .i64 (n : Nat)] w fun e w' => e = .returned (.string (txB (dec3 n))) ∧ Below w.heap.size w w' := by
  refine (itoa_any (n : Int) (by omega) (by omega) w hp).mono ?_
  rintro e w' ⟨rfl, k, os, rfl⟩
  refine ⟨?_, Lib.below_grow _ w (Nat.le_refl _) k os⟩
  rw [dec3_itoa hn]
theorem Tryz.infoStr : (Tryz.prog.info? 9).map (fun i => (i.zero, i.size, i.bytes)) = some (some (.string ⟨#[]⟩), 1, 16) := by kernel_rfl
def dtT (b : Nat → Nat) (i : Nat) : ByteArray := txB (dec3 (b i))
def dtL (b : Nat → Nat) (i : Nat) : List Value := (List.range i).map fun k => .string (dtT b k)
theorem dtL_len (b : Nat → Nat) (i : Nat) : (dtL b i).length = i := by simp [dtL]
theorem dtL_succ (b : Nat → Nat) (i : Nat) : dtL b (i + 1) = dtL b i ++ [.string (dtT b i)] := by simp [dtL, List.range_succ]
theorem own_some {w : World} {base : Nat} {e : TypeId} {sz n c : Nat} {a : Option Addr} {xs : List Value} (h : w.ownsRow base e sz (.slice a n c) n xs) (hn : 0 < n) : ∃ g, a = some ⟨g, 0, none⟩ ∧ n ≤ c ∧ base ≤ g ∧ g < w.heap.size := by
  rcases h.2 with ⟨_, h0⟩ | ⟨g, cap, cur, e1, hb, hg, hc, _⟩
  · omega
  · simp only [Value.slice.injEq] at e1
    obtain ⟨rfl, _, rfl⟩ := e1
    exact ⟨g, rfl, hc, hb, (Array.getElem?_eq_some_iff.1 hg).1⟩
theorem join_dots (b : Nat → Nat) : (⟨(Lib.join (([dtT b 0, dtT b 1, dtT b 2, dtT b 3]).map (·.data.toList)) (⟨#[46]⟩ : ByteArray).data.toList).toArray⟩ : ByteArray) = txB (dots (b 0) (b 1) (b 2) (b 3)) := by
  unfold txB dots Lib.join
  congr 2
  simp [dtT, txB_data, List.intercalate, List.intersperse]
theorem join_len (b : Nat → Nat) : (Lib.join (([dtT b 0, dtT b 1, dtT b 2, dtT b 3]).map (·.data.toList)) (⟨#[46]⟩ : ByteArray).data.toList).length ≤ 15 := by
  have h := congrArg ByteArray.size (join_dots b)
  rw [txB_size] at h
  have h3 : ∀ l : List UInt8, (⟨l.toArray⟩ : ByteArray).size = l.length := fun l => List.size_toArray
  rw [h3] at h
  have h2 := dots_hi (b 0) (b 1) (b 2) (b 3)
  omega
set_option maxHeartbeats 1600000 in
set_option maxRecDepth 100000 in
theorem dotted_any' (P o cap : Nat) (b : Nat → Nat) (w : World) (hb : ∀ i, i < 4 → b i < 256) (hc : ∀ i, i < 4 → w.cell? ⟨P, o + i, none⟩ = some (.int .u8 (b i : Nat))) (hp : Pow w) : Calls Tryz.prog 19 #[.slice (some ⟨P, o, none⟩) 4 cap] w fun r w' => r = .returned (.string (txB (dots (b 0) (b 1) (b 2) (b 3)))) ∧ Below w.heap.size w w' := by
  obtain ⟨i0, hi, hz0, hz1, hz2⟩ := info_parts Tryz.infoStr
  have HI : Hid (Tryz.prog.info? 9 = some i0 ∧ i0.zero = some (.string ⟨#[]⟩) ∧ i0.size = 1 ∧ i0.bytes = 16) := ⟨hi, hz0, hz1, hz2⟩
  have HB : Hid (∀ i, i < 4 → b i < 256) := hb
  have HCE : Hid (∀ i, i < 4 → w.cell? ⟨P, o + i, none⟩ = some (.int .u8 (b i : Nat))) := hc
  have HPW : Hid (Pow w) := hp
  clear hi hz0 hz1 hz2 hb hc hp
  go_enter Tryz.func19, Tryz.ntmps19
  go_wp2
  go_loopw [3, 8] (fun lv ix wr => ∃ i : Nat, i ≤ 4 ∧ ix = .int .i64 (i : Nat) ∧ Hid (wr.ownsRow w.heap.size 9 1 lv i (dtL b i) ∧ Below w.heap.size w wr)) (fun _ ix _ => 4 - (intOf ix).toNat)
  case atStart => exact ⟨0, by omega, rfl, World.ownsRow_nil _ _ _ _, Below.refl _ _⟩
  case round =>
    rename_i lv ix
    obtain ⟨i, hi4, rfl, HO⟩ := hrel
    obtain ⟨a, c, hlv⟩ := owns_shape HO.out.1
    subst hlv
    have HI4 : Hid (i ≤ 4) := hi4
    clear hi4
    by_cases hlt : i < 4
    · have p1 : decide ((i : Int) < 4) = true := decide_eq_true (by omega)
      have p2 : decide (i < 4) = true := decide_eq_true hlt
      have p3 : (i : Int) < 4 := by omega
      have p4 : (0 : Int) ≤ (i : Int) := by omega
      have HLT : Hid (i < 4) := hlt
      have x3 : IntKind.i64.wrap ((i : Int) + 1) = (i : Int) + 1 := i64_s _ (by omega) (by omega)
      have cP : wr.cell? ⟨P, o + i, none⟩ = some (.int .u8 (b i : Nat)) := by
        have h1 := HCE.out i hlt
        exact (HO.out.2.cell (World.block_lt_of_cell? w _ h1)).trans h1
      have x4 : IntKind.i64.wrap ((b i : Nat) : Int) = ((b i : Nat) : Int) := i64_s _ (by omega) (by have := HB.out i hlt; omega)
      clear hlt
      go_wp2_with fail
      refine (itoa_byte (b i) (HB.out i HLT.out) wr (HPW.out.below HO.out.2)).mono ?_
      rintro e w1 ⟨rfl, hbel⟩
      have H1 : Hid (w1.ownsRow w.heap.size 9 1 (.slice a i c) i (dtL b i) ∧ Below w.heap.size w w1) := ⟨(Ch.ofBelow (S := fun _ => False) hbel).owns HO.out.1 (fun _ _ h => h), HO.out.2.trans (hbel.mono HO.out.2.size)⟩
      clear hbel cP
      go_wp2_with (at_builtin; refine wpList_append_own_at _ rfl (.tmp 12) (.tmp 16) 78 rfl w.heap.size 9 i0 (.string ⟨#[]⟩) 1 16 Tryz.underlying78 HI.out.1 HI.out.2.1 HI.out.2.2.1 HI.out.2.2.2 rfl (by decide) _ _ _ rfl (H1.out.1.alloc _) ⟨w1.heap.size, 0, none⟩ 1 1 [.string (dtT b i)] rfl rfl (cellsOne _ _ _) (by intro u hu; simp at hu; subst hu; rfl) (by have := HLT.out; unfold maxLen; omega) (by have := HLT.out; omega) (by have := H1.out.2.size; simp; omega) ?_)
      intro v2 w2 ho2 hg2 _ _
      have H2 : Hid (w2.ownsRow w.heap.size 9 1 v2 (i + 1) (dtL b (i + 1)) ∧ Below w.heap.size w w2) := ⟨by rw [dtL_succ]; exact ho2, (H1.out.2.alloc H1.out.2.size _).grown hg2 (by have := H1.out.2.size; simp; omega) (fun j hj => (H1.out.1.lt j hj).1)⟩
      clear ho2 hg2
      go_wp2
      go_roundw
      case rel => exact ⟨i + 1, HLT.out, by simp, H2.out⟩
      case measure => have := HLT.out; simp [intOf]; omega
    · have HE : Hid (i = 4) := by have := HI4.out; show i = 4; omega
      have p1 : decide ((i : Int) < 4) = false := decide_eq_false (by omega)
      have p2 : decide (i < 4) = false := decide_eq_false hlt
      have p3 : ¬ (i : Int) < 4 := by omega
      clear hlt
      obtain rfl := HE.out
      obtain ⟨g, rfl, hcap, _, hglt⟩ := own_some HO.out.1 (by decide)
      have HCELL : Hid (∀ (j : Nat) x, [dtT b 0, dtT b 1, dtT b 2, dtT b 3][j]? = some x → wr.cell? ⟨g, 0 + j, none⟩ = some (.string x)) := by
        intro j x hj
        have hlt : j < 4 := (List.getElem?_eq_some_iff.1 hj).1
        rw [Nat.zero_add, HO.out.1.cellAt j (by omega)]
        rcases (show j = 0 ∨ j = 1 ∨ j = 2 ∨ j = 3 by omega) with rfl | rfl | rfl | rfl <;> (simp at hj; subst hj; rfl)
      have HG : Hid (g < wr.heap.size ∧ 4 ≤ c) := ⟨hglt, hcap⟩
      have HBEL : Hid (Below w.heap.size w wr) := HO.out.2
      clear HE HO HI4 p1 p2 p3 hcap hglt
      go_wp2_with fail
      refine (join_any g 0 c [dtT b 0, dtT b 1, dtT b 2, dtT b 3] ⟨#[46]⟩ wr HCELL.out HG.out.1 (by simp) HG.out.2 (Nat.le_trans (join_len b) (by decide))).mono ?_
      rintro e w1 ⟨rfl, hb1⟩
      rw [join_dots]
      have H1 : Hid (Below w.heap.size w w1) := HBEL.out.trans (hb1.mono HBEL.out.size)
      clear hb1
      go_wp2
      go_ret
      exact ⟨rfl, H1.out⟩
end Go.Proofs.YteldiggaooeeeaaGreatDoor
namespace Go.Proofs.YteldiggaooeeeaaGreatDoor
open Go.RowKit Go.Maps

theorem lt16' {j : Nat} (h : j < 16) : j = 0 ∨ j = 1 ∨ j = 2 ∨ j = 3 ∨ j = 4 ∨ j = 5 ∨ j = 6 ∨ j = 7 ∨ j = 8 ∨ j = 9 ∨ j = 10 ∨ j = 11 ∨ j = 12 ∨ j = 13 ∨ j = 14 ∨ j = 15 := by omega
theorem ipC_byte (V : Int) (x : Nat → Nat) (i : Nat) (hi : i < 16) : (ipCells V x)[1 + i]? = some (.int .u8 (x i : Nat)) := by
  rcases lt16' hi with rfl | rfl | rfl | rfl | rfl | rfl | rfl | rfl | rfl | rfl | rfl | rfl | rfl | rfl | rfl | rfl <;> rfl
theorem IprAt.byte {w : World} {O : Nat} {V : Int} {x : Nat → Nat} (h : IprAt w O V x) (i : Nat) (hi : i < 16) : w.cell? ⟨O, 1 + i, none⟩ = some (.int .u8 (x i : Nat)) := (h.cell _).trans (ipC_byte V x i hi)
theorem results_ipr_tmp2 {fn : Func} {p u0 u1 : Tmp} (h : fn.results = #[.cell p 28, .tmp u0, .tmp u1]) (tmps : Array Value) (w : World) (O : Nat) (V : Int) (f : Nat → Nat) (hp : tmps.getD p undef = .pointer (some ⟨O, 0, none⟩)) (hb : IprAt w O V f) :
    (results fn tmps).run Tryz.prog w = .ok (.tuple #[.agg (ipCells V f), tmps.getD u0 undef, tmps.getD u1 undef]) w := by
  have hp' : tmps[p]?.getD undef = .pointer (some ⟨O, 0, none⟩) := by simpa using hp
  simp [results, h, hp', asAddr, run_loadVar_row w O _ 28 (ipCells V f) _ _ hb Tryz.underlying28 rfl Tryz.size_ipr]
theorem dtd_ok {s : ByteArray} {l' : List Nat} : ∀ m p l, dtd s m p l = .inl l' → ∃ t, l' = l ++ t ∧ t.length = m ∧ ∀ x ∈ t, x < 256
  | 0, p, l, h => by
    unfold dtd at h
    split at h
    · cases h
    · injection h with h; exact ⟨[], by simp [h], rfl, fun x hx => by cases hx⟩
  | m + 1, p, l, h => by
    have hle : dcm s p (scP s dgB p) 255 ≤ 255 := dcm_le
    unfold dtd at h
    split at h
    · cases h
    · split at h
      · cases h
      · split at h
        · rename_i hm
          obtain ⟨t, e1, e2, e3⟩ := dtd_ok 0 _ _ h
          refine ⟨(dcm s p (scP s dgB p) 255).toNat :: t, by rw [e1]; simp, by simp at hm; simp [e2, hm], fun x hx => ?_⟩
          rcases List.mem_cons.1 hx with rfl | hx
          · omega
          · exact e3 x hx
        · split at h
          · cases h
          · obtain ⟨t, e1, e2, e3⟩ := dtd_ok m _ _ h
            refine ⟨(dcm s p (scP s dgB p) 255).toNat :: t, by rw [e1]; simp, by simp [e2], fun x hx => ?_⟩
            rcases List.mem_cons.1 hx with rfl | hx
            · omega
            · exact e3 x hx
theorem hrE_ne (s : ByteArray) (p : Nat) : (hrE s p).1 ≠ 0 ∧ (hrE s p).1 < 100 := by unfold hrE; split <;> simp
theorem dtd_er {s : ByteArray} {e : Nat × Nat} : ∀ m p l, dtd s m p l = .inr e → e.1 ≠ 0 ∧ e.1 < 100
  | 0, p, l, h => by
    unfold dtd at h
    split at h
    · injection h with h; rw [← h]; simp
    · cases h
  | m + 1, p, l, h => by
    unfold dtd at h
    split at h
    · injection h with h; rw [← h]; exact hrE_ne s p
    · split at h
      · injection h with h; rw [← h]; simp
      · split at h
        · exact dtd_er 0 _ _ h
        · split at h
          · injection h with h; rw [← h]; exact hrE_ne s _
          · exact dtd_er m _ _ h
theorem list4 {t : List Nat} (h : t.length = 4) : ∃ a b c d, t = [a, b, c, d] := by
  match t, h with
  | [a, b, c, d], _ => exact ⟨a, b, c, d, rfl⟩
/-- ParseIP's answer -/
def ipO (r : Sum (Int × (Nat → Nat)) (Nat × Nat)) : Value := match r with
  | .inl (V, x) => .tuple #[.agg (ipCells V x), .int .i64 0, .int .i64 0]
  | .inr (e, p) => .tuple #[.agg (ipCells 0 (fun _ => 0)), .int .i64 (e : Nat), .int .i64 (p : Nat)]
theorem idx_hs (s : ByteArray) : decide (0 ≤ Lib.indexByte s.data.toList 58) = hsB s 58 := by
  have h : ∀ l : List UInt8, decide (0 ≤ Lib.indexByte l 58) = l.any (fun b => b == 58) := by
    intro l
    induction l with
    | nil => rfl
    | cons b l ih =>
      unfold Lib.indexByte
      rw [List.any_cons, ← ih]
      by_cases hb : b == 58
      · rw [hb]; simp
      · rw [Bool.not_eq_true] at hb
        rw [hb]
        by_cases h1 : Lib.indexByte l 58 == -1
        · rw [h1]; simp at h1; simp [h1]
        · rw [Bool.not_eq_true] at h1
          rw [h1]
          simp at h1
          by_cases h2 : 0 ≤ Lib.indexByte l 58
          · simp [h2]; omega
          · simp [h2]; omega
  rw [h]
  unfold hsB
  rw [Bool.eq_iff_iff, List.any_eq_true, List.any_eq_true]
  constructor
  · rintro ⟨b, hb, he⟩
    obtain ⟨i, hi⟩ := List.mem_iff_getElem?.1 hb
    have hlt := (List.getElem?_eq_some_iff.1 hi).1
    refine ⟨i, List.mem_range.2 hlt, ?_⟩
    unfold sB
    rw [List.getD_eq_getElem?_getD, hi]
    simp at he
    subst he
    rfl
  · rintro ⟨i, hi, he⟩
    have hlt : i < s.data.toList.length := List.mem_range.1 hi
    refine ⟨s.data.toList[i], List.getElem_mem hlt, ?_⟩
    unfold sB at he
    rw [List.getD_eq_getElem?_getD, List.getElem?_eq_getElem hlt] at he
    simp at he ⊢
    exact UInt8.toNat_inj.1 he
set_option maxHeartbeats 1600000 in
set_option maxRecDepth 100000 in
theorem print4_any (x : Nat → Nat) (w : World) (hx : ∀ i, i < 16 → x i < 256) (hv : vld 4 x = true) (hp : Pow w) : Calls Tryz.prog 10 #[.agg (ipCells 4 x)] w fun r w' => r = .returned (.tuple #[.string (txB (dots (x 0) (x 1) (x 2) (x 3))), .int .i64 0]) ∧ Below w.heap.size w w' := by
  have HX : Hid (∀ i, i < 16 → x i < 256) := hx
  have HV : Hid (vld 4 x = true) := hv
  have HPW : Hid (Pow w) := hp
  clear hx hv hp
  have hb := ipr_new w 4 x
  have bel : Below w.heap.size w (w.alloc (.cells (ipCells 4 x) 28)) := (Below.refl _ _).alloc (Nat.le_refl _) _
  obtain ⟨CX, hC⟩ : ∃ C, C = ipCells 4 x := ⟨_, rfl⟩
  obtain ⟨W, hW⟩ : ∃ W_, W_ = w.alloc (.cells (ipCells 4 x) 28) := ⟨_, rfl⟩
  rw [← hW] at hb bel
  have HSZX : Hid (W.heap.size = w.heap.size + 1) := by show _ = _; rw [hW, World.size_alloc]
  obtain ⟨B, hB⟩ : ∃ B, B = w.heap.size := ⟨_, rfl⟩
  rw [← hB] at hb
  have HBX : Hid (IprAt W B 4 x) := hb
  rw [← hC] at hW ⊢
  have HOX : Hid (w.heap.size = B) := hB.symm
  have HLX : Hid (Below w.heap.size w W) := bel
  have HWX : Hid (w.alloc (.cells CX 28) = W) := hW.symm
  clear hb hW hB hC bel
  go_enter Tryz.func10, Tryz.ntmps10
  go_upto_region 1 with fail
  rw [HOX.out, HWX.out]
  go_wp2_with (refine wpList_load_ipr (.tmp 1) rfl B 4 x rfl HBX.out rfl ?_)
  refine (valid_any 4 x W HX.out).mono ?_
  rintro e w1 ⟨rfl, hb1⟩
  rw [HV.out]
  have H1 : Hid (IprAt w1 B 4 x ∧ Below w.heap.size w w1) := ⟨HBX.out.below hb1, HLX.out.trans (hb1.mono HLX.out.size)⟩
  have k0 : w1.cell? ⟨B, 0, none⟩ = some (.int .i64 4) := H1.out.1.cell 0
  have HPW1 : Hid (Pow w1) := HPW.out.below H1.out.2
  clear hb1
  go_wp2_with fail
  refine (dotted_any' B 1 16 x w1 (fun i hi => HX.out i (by omega)) (fun i hi => H1.out.1.byte i (by omega)) HPW1.out).mono ?_
  rintro e w2 ⟨rfl, hb2⟩
  have H2 : Hid (Below w.heap.size w w2) := H1.out.2.trans (hb2.mono H1.out.2.size)
  clear hb2
  go_wp2
  refine bodyPost_ret (results_tmp2 rfl _ _ _) rfl ?_
  exact ⟨rfl, H2.out⟩
def wl3 (w : World) (s : ByteArray) : World := (((w.alloc (.cells (ipCells 0 (fun _ => 0)) 28)).alloc (.cells (rdC s 0) 45)).alloc (.cells (ipCells 0 (fun _ => 0)) 28))
theorem wl3_at (w : World) (s : ByteArray) : IprAt (wl3 w s) w.heap.size 0 (fun _ => 0) ∧ RdAt (wl3 w s) (w.heap.size + 1) s 0 ∧ IprAt (wl3 w s) (w.heap.size + 2) 0 (fun _ => 0) ∧ Below w.heap.size w (wl3 w s) := by
  have a1 := ipr_new w 0 (fun _ => 0)
  have b1 : Below w.heap.size w (w.alloc (.cells (ipCells 0 (fun _ => 0)) 28)) := (Below.refl _ _).alloc (Nat.le_refl _) _
  unfold wl3
  obtain ⟨w1, hw1⟩ : ∃ w1, w1 = w.alloc (.cells (ipCells 0 (fun _ => 0)) 28) := ⟨_, rfl⟩
  have z1 : w1.heap.size = w.heap.size + 1 := by rw [hw1, World.size_alloc]
  rw [← hw1] at a1 b1 ⊢
  have a2 : RdAt (w1.alloc (.cells (rdC s 0) 45)) w1.heap.size s 0 := heap_alloc_new _ _
  have b2 : Below w1.heap.size w1 (w1.alloc (.cells (rdC s 0) 45)) := (Below.refl _ _).alloc (Nat.le_refl _) _
  obtain ⟨w2, hw2⟩ : ∃ w2, w2 = w1.alloc (.cells (rdC s 0) 45) := ⟨_, rfl⟩
  have z2 : w2.heap.size = w.heap.size + 2 := by rw [hw2, World.size_alloc, z1]
  rw [← hw2] at a2 b2 ⊢
  have a3 := ipr_new w2 0 (fun _ => 0)
  have b3 : Below w2.heap.size w2 (w2.alloc (.cells (ipCells 0 (fun _ => 0)) 28)) := (Below.refl _ _).alloc (Nat.le_refl _) _
  rw [z1] at a2
  rw [z2] at a3
  exact ⟨(a1.below b2).below b3, a2.below b3, a3, (b1.trans (b2.mono (by omega))).trans (b3.mono (by omega))⟩
set_option maxHeartbeats 1600000 in
set_option maxRecDepth 100000 in
theorem parse4_any (s : ByteArray) (w : World) (hs : s.size ≤ 45) (h4 : hsB s 58 = false) : Calls Tryz.prog 9 #[.string s] w fun r w' => r = .returned (ipO (pIP s)) ∧ Below w.heap.size w w' := by
  have HS : Hid (s.size ≤ 45) := hs
  have H4 : Hid (hsB s 58 = false) := h4
  have q0 : decide ((45 : Int) < (s.size : Int)) = false := decide_eq_false (by omega)
  have q1 : decide (45 < s.size) = false := decide_eq_false (by omega)
  clear hs h4
  obtain ⟨W, hW⟩ : ∃ W_, W_ = wl3 w s := ⟨_, rfl⟩
  obtain ⟨B, hB⟩ : ∃ B, B = w.heap.size := ⟨_, rfl⟩
  have HIP : Hid (IprAt W B 0 (fun _ => 0) ∧ RdAt W (B + 1) s 0 ∧ IprAt W (B + 1 + 1) 0 (fun _ => 0) ∧ Below w.heap.size w W) := by rw [hW, hB]; exact wl3_at w s
  have HBW : Hid (w.heap.size = B) := hB.symm
  have HW : Hid ((((w.alloc (.cells #[.int .i64 0, .int .u8 0, .int .u8 0, .int .u8 0, .int .u8 0, .int .u8 0, .int .u8 0, .int .u8 0, .int .u8 0, .int .u8 0, .int .u8 0, .int .u8 0, .int .u8 0, .int .u8 0, .int .u8 0, .int .u8 0, .int .u8 0] 28)).alloc (.cells #[.string s, .int .i64 0] 45)).alloc (.cells #[.int .i64 0, .int .u8 0, .int .u8 0, .int .u8 0, .int .u8 0, .int .u8 0, .int .u8 0, .int .u8 0, .int .u8 0, .int .u8 0, .int .u8 0, .int .u8 0, .int .u8 0, .int .u8 0, .int .u8 0, .int .u8 0, .int .u8 0] 28)) = W) := hW.symm
  clear hW hB
  go_enter Tryz.func9, Tryz.ntmps9
  go_wp2_with fail
  rw [HBW.out, HW.out]
  refine (con_any s 58 W).mono ?_
  rintro e W ⟨rfl, rfl⟩
  rw [idx_hs, H4.out]
  have k0 : W.cell? ⟨B + 1 + 1, 0, none⟩ = some (.int .i64 0) := HIP.out.2.2.1.cell 0
  have f0 : W.frozen? ⟨B + 1 + 1, 0, none⟩ = false := HIP.out.2.2.1.fz 0
  obtain ⟨W1, hW1⟩ : ∃ W1, W1 = W.setCell ⟨B + 1 + 1, 0, none⟩ (.int .i64 4) := ⟨_, rfl⟩
  have H1 : Hid (IprAt W1 B 0 (fun _ => 0) ∧ RdAt W1 (B + 1) s 0 ∧ IprAt W1 (B + 1 + 1) 4 (fun _ => 0) ∧ Below w.heap.size w W1) := by
    have c1 : Ch (fun k => k = B + 1 + 1) W W1 := by rw [hW1]; exact (Ch.refl _ _).set _ _ rfl
    refine ⟨HIP.out.1.ch c1 (by omega), HIP.out.2.1.ch c1 (by omega), ?_, HIP.out.2.2.2.trans (c1.below (fun q h => by have := HBW.out; omega) HIP.out.2.2.2.size)⟩
    rw [hW1]
    have h0 := HIP.out.2.2.1
    unfold IprAt at h0 ⊢
    rw [heap_setCell_same W (B + 1 + 1) 0 _ _ _ h0]
    rfl
  have HW1 : Hid (W.setCell ⟨B + 1 + 1, 0, none⟩ (.int .i64 4) = W1) := hW1.symm
  clear hW1
  go_wp2_with fail
  rw [HW1.out]
  refine (four_any (B + 1) (B + 1 + 1) 1 16 s 0 (ipCells 4 (fun _ => 0)) 28 W1 H1.out.2.1 H1.out.2.2.1 (by omega) (fun k hk => ⟨_, ipC_byte 4 _ k (by omega)⟩) (Nat.zero_le _) (by have := HS.out; omega)).mono ?_
  rintro e w2 ⟨hf, hch⟩
  have H2 : Hid (IprAt w2 B 0 (fun _ => 0) ∧ Below w.heap.size w w2) := ⟨H1.out.1.ch hch (by omega), H1.out.2.2.2.trans (hch.below (fun q h => by have := HBW.out; omega) H1.out.2.2.2.size)⟩
  clear hch k0 f0
  cases hd : dtd s 4 0 [] with
  | inr er =>
    unfold FrR at hf
    rw [hd] at hf
    obtain ⟨rfl, hrd⟩ := hf
    obtain ⟨e1, e2⟩ := er
    have hne := dtd_er 4 0 [] hd
    have HP : Hid (pIP s = .inr (e1, e2)) := by show _ = _; unfold pIP; rw [if_neg (by have := HS.out; omega), H4.out, if_neg (by decide), hd]
    have q2 : (((e1 : Nat) : Int) != 0) = true := by simp at hne ⊢; omega
    have HRD : Hid (RdAt w2 (B + 1) s e2) := hrd
    clear hd hne hrd
    go_wp2_with fail
    refine MixH.start (fun A => IprAt A B 0 (fun _ => 0) ∧ RdAt A (B + 1) s e2 ∧ Below w.heap.size w A) (by kernel_rfl) ?_
    obtain ⟨wA, hwA⟩ : ∃ W_, W_ = w2.drew := ⟨_, rfl⟩
    have bdr : Below w2.heap.size w2 wA := by rw [hwA]; exact (Below.refl _ _).drew
    have hS : IprAt wA B 0 (fun _ => 0) ∧ RdAt wA (B + 1) s e2 ∧ Below w.heap.size w wA := ⟨H2.out.1.below bdr, HRD.out.below bdr, H2.out.2.trans (bdr.mono H2.out.2.size)⟩
    rw [← hwA]
    clear hwA bdr
    refine MixH.takes [true, true, true] 4 (by kernel_rfl) (by kernel_rfl) (by decide) (by kernel_rfl) hS (fun K hK => ?_)
    simp only [Mix.pick]
    repeat (go_big_quiet_step (fail))
    refine wpQuiet_nil (hK _ ?_)
    clear hK K
    refine MixH.take 3 3 _ (.int .i64 (e2 : Nat)) rfl (by kernel_rfl) (by kernel_rfl) (by kernel_rfl) (by kernel_rfl) (yields_int (.tmp 31) rfl ⟨B + 1, 1, none⟩ (.int .i64 (e2 : Nat)) rfl rfl (fun A hA => hA.2.1.c1)) hS (fun a' ha => ?_)
    simp only [Act.put, List.setIfInBounds_toArray, List.set_cons_succ, List.set_cons_zero] at ha
    subst ha
    refine MixH.one [false, false, false, false, true] 2 4 _ rfl rfl (by kernel_rfl) (by kernel_rfl) (fun K hK => ?_)
    simp only [Mix.pick]
    go_wp2_with (refine wpList_store_ipr (.tmp 2) (.tmp 29) rfl rfl B 0 (fun _ => 0) 0 (fun _ => 0) rfl rfl hS.1 rfl ?_)
    intro wE hRE kE
    have hS : IprAt wE B 0 (fun _ => 0) ∧ RdAt wE (B + 1) s e2 ∧ Below w.heap.size w wE := ⟨hRE, hS.2.1.ch kE (by omega), hS.2.2.trans (kE.below (fun q h => by have h' : q = B := h; have := HBW.out; omega) hS.2.2.size)⟩
    clear hRE kE
    go_wp2_with fail
    refine ⟨rfl, hK _ _ hS ?_⟩
    clear hK K
    refine MixH.takes [false, false, false, false, false, true, true] 0 (by kernel_rfl) (by kernel_rfl) (by decide) (by kernel_rfl) hS (fun K hK => ?_)
    simp only [Mix.pick]
    repeat (go_big_quiet_step (fail))
    refine wpQuiet_nil (hK _ ?_)
    clear hK K
    refine MixH.done (by kernel_rfl) ?_
    have HS2 : Hid (IprAt wE B 0 (fun _ => 0) ∧ RdAt wE (B + 1) s e2 ∧ Below w.heap.size w wE) := hS
    clear hS
    go_wp2
    (try simp only [Exit.inBlock, Exit.then])
    refine bodyPost_ret (results_ipr_tmp2 rfl _ _ B 0 _ rfl HS2.out.1) rfl ?_
    exact ⟨by rw [HP.out]; rfl, HS2.out.2.2⟩
  | inl l =>
    unfold FrR at hf
    rw [hd] at hf
    obtain ⟨rfl, hrd, hP⟩ := hf
    obtain ⟨t, ht, ht4, htb⟩ := dtd_ok 4 0 [] hd
    obtain ⟨a0, a1, a2, a3, rfl⟩ := list4 ht4
    obtain rfl : l = [a0, a1, a2, a3] := by simpa using ht
    have hI : IprAt w2 (B + 1 + 1) 4 (fun i => [a0, a1, a2, a3].getD i 0) := hP
    have HI : Hid (IprAt w2 (B + 1 + 1) 4 (fun i => [a0, a1, a2, a3].getD i 0)) := hI
    have HP : Hid (pIP s = .inl (4, fun i => [a0, a1, a2, a3].getD i 0)) := by show _ = _; unfold pIP; rw [if_neg (by have := HS.out; omega), H4.out, if_neg (by decide), hd]
    clear hd hrd hP ht ht4 htb hI
    go_wp2_with (first | (refine wpList_load_ipr (.tmp 6) rfl (B + 1 + 1) 4 _ rfl HI.out rfl ?_) | (refine wpList_store_ipr (.tmp 2) (.tmp 33) rfl rfl B 0 (fun _ => 0) 4 (fun i => [a0, a1, a2, a3].getD i 0) rfl rfl H2.out.1 rfl ?_))
    intro wE hRE kE
    have HE : Hid (IprAt wE B 4 (fun i => [a0, a1, a2, a3].getD i 0) ∧ Below w.heap.size w wE) := ⟨hRE, H2.out.2.trans (kE.below (fun q h => by have h' : q = B := h; have := HBW.out; omega) H2.out.2.size)⟩
    clear hRE kE
    go_wp2
    (try simp only [Exit.inBlock, Exit.then])
    refine bodyPost_ret (results_ipr_tmp2 rfl _ _ B 4 _ rfl HE.out.1) rfl ?_
    exact ⟨by rw [HP.out]; rfl, HE.out.2⟩
end Go.Proofs.YteldiggaooeeeaaGreatDoor
