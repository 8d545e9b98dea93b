/-
  Layer 4: addr.reader: stands, skip, digits, number.
-/
import Derived.Test.YteldiggaooeeeaaGreatDoorAdW1
namespace Go.Proofs.YteldiggaooeeeaaGreatDoor
open Go.RowKit Go.Maps

/-- does a mark stand at p? -/
def stB (s : ByteArray) (p : Nat) (m : ByteArray) : Bool := Lib.hasPrefix (s.data.toList.drop p) m.data.toList
def RdS (w A : World) (R : Nat) (s : ByteArray) (p : Nat) : Prop := RdAt A R s p ∧ NoCh w A
theorem RdS.mono {w A B : World} {R : Nat} {s : ByteArray} {p : Nat} (h : RdS w A R s p) (c : NoCh A B) : RdS w B R s p := ⟨rd_no h.1 c, h.2.trans c (fun _ _ h => h)⟩
theorem RdS.drew {w A : World} {R : Nat} {s : ByteArray} {p : Nat} (h : RdS w A R s p) : RdS w A.drew R s p := h.mono (Ch.refl _ _).drew
theorem RdS.start {w : World} {R : Nat} {s : ByteArray} {p : Nat} (h : RdAt w R s p) : RdS w w R s p := ⟨h, Ch.refl _ _⟩
theorem stB_cut (s m : ByteArray) (p : Nat) : Lib.hasPrefix (s.extract p s.size).data.toList m.data.toList = stB s p m := by
  unfold stB
  congr 1
  rw [ByteArray.data_extract, Array.toList_extract, List.extract_eq_take_drop]
  have : (s.data.toList.drop p).length = s.size - p := by rw [List.length_drop]; rfl
  rw [← this, List.take_length]
theorem stB_one {s : ByteArray} {p : Nat} {c : UInt8} (hp : p ≤ s.size) : stB s p ⟨#[c]⟩ = (decide (p < s.size) && sB s p == c.toNat) := by
  unfold stB
  by_cases h : p < s.size
  · have h2 : p < s.data.toList.length := h
    rw [List.drop_eq_getElem_cons h2, decide_eq_true h]
    unfold sB
    rw [List.getD_eq_getElem?_getD, List.getElem?_eq_getElem h2]
    show (_ && true) = _
    simp
    rw [Bool.eq_iff_iff]
    simp [UInt8.toNat_inj]
    exact eq_comm
  · rw [List.drop_eq_nil_of_le (by show s.size ≤ p; omega), decide_eq_false h]
    rfl
theorem stB_two {s : ByteArray} {p : Nat} : stB s p ⟨#[58, 58]⟩ = twB s p := by
  unfold stB twB
  by_cases h : p + 1 < s.size
  · have h2 : p + 1 < s.data.toList.length := h
    have h3 : p < s.data.toList.length := by omega
    rw [List.drop_eq_getElem_cons h3, List.drop_eq_getElem_cons h2, decide_eq_true h]
    unfold sB
    rw [List.getD_eq_getElem?_getD, List.getElem?_eq_getElem h3, List.getD_eq_getElem?_getD, List.getElem?_eq_getElem h2]
    rw [Bool.eq_iff_iff]
    simp [Lib.hasPrefix, ← UInt8.toNat_inj]
    constructor <;> rintro ⟨a, b⟩ <;> exact ⟨a.symm, b.symm⟩
  · rw [decide_eq_false h]
    by_cases h4 : p < s.size
    · have h3 : p < s.data.toList.length := h4
      rw [List.drop_eq_getElem_cons h3, List.drop_eq_nil_of_le (by show s.size ≤ p + 1; omega)]
      simp [Lib.hasPrefix, List.isPrefixOf]
    · rw [List.drop_eq_nil_of_le (by show s.size ≤ p; omega)]
      rfl
set_option maxHeartbeats 1600000 in
set_option maxRecDepth 100000 in
theorem stands_any (R : Nat) (s m : ByteArray) (p : Nat) (w : World) (h : RdAt w R s p) (hp : p ≤ s.size) : Calls Tryz.prog 63 #[.pointer (some ⟨R, 0, none⟩), .string m] w fun r w' => r = .returned (.bool (stB s p m)) ∧ NoCh w w' := by
  have HS0 : Hid (RdS w w R s p) := RdS.start h
  have HP : Hid (p ≤ s.size) := hp
  have p1 : (0 : Int) ≤ (p : Int) := by omega
  have p2 : (p : Int) ≤ (s.size : Int) := by omega
  clear h hp
  go_enter Tryz.func63, Tryz.ntmps63
  go_upto_region 1 with fail
  refine MixH.start (fun A => RdS w A R s p) (by kernel_rfl) ?_
  obtain ⟨wA, hwA⟩ : ∃ W_, W_ = w.drew := ⟨_, rfl⟩
  have bdr : Below w.heap.size w wA := by rw [hwA]; exact (Below.refl _ _).drew
  have hS : RdS w wA R s p := HS0.out.mono (Ch.ofBelow bdr)
  rw [← hwA]
  clear hwA bdr
  refine MixH.takes [true, true, true, false, true, true, true, false, false, true] 5 (by kernel_rfl) (by kernel_rfl) (by decide) (by kernel_rfl) hS (fun K hK => ?_)
  simp only [Mix.pick]
  repeat (go_big_quiet_step (fail))
  refine wpQuiet_nil (hK _ ?_)
  clear hK K
  refine MixH.take 4 3 _ (.string s) rfl (by kernel_rfl) (by kernel_rfl) (by kernel_rfl) (by kernel_rfl) (yields_str (.tmp 7) rfl ⟨R, 0, none⟩ (.string s) rfl rfl (fun A hA => hA.1.c0)) hS (fun a' ha => ?_)
  simp only [Act.put, List.setIfInBounds_toArray, List.set_cons_succ, List.set_cons_zero] at ha
  subst ha
  refine MixH.take 3 7 _ (.int .i64 (p : Nat)) rfl (by kernel_rfl) (by kernel_rfl) (by kernel_rfl) (by kernel_rfl) (yields_int (.tmp 11) rfl ⟨R, 1, none⟩ (.int .i64 (p : Nat)) rfl rfl (fun A hA => hA.1.c1)) hS (fun a' ha => ?_)
  simp only [Act.put, List.setIfInBounds_toArray, List.set_cons_succ, List.set_cons_zero] at ha
  subst ha
  refine MixH.takes [false, false, false, false, false, false, false, false, true] 2 (by kernel_rfl) (by kernel_rfl) (by decide) (by kernel_rfl) hS (fun K hK => ?_)
  simp only [Mix.pick]
  repeat (go_big_quiet_step (fail))
  refine wpQuiet_nil (hK _ ?_)
  clear hK K
  refine MixH.one [false, false, false, false, false, false, false, false, false, false, true] 1 10 _ rfl rfl (by kernel_rfl) (by kernel_rfl) (fun K hK => ?_)
  simp only [Mix.pick]
  go_wp2_with fail
  refine Calls.mono (has_any _ m wA) ?_
  rintro e w1 ⟨rfl, rfl⟩
  rw [stB_cut]
  go_wp2_with fail
  refine ⟨rfl, hK _ _ hS ?_⟩
  clear hK K
  refine MixH.takes [false, false, false, false, false, false, false, false, false, false, false, true] 0 (by kernel_rfl) (by kernel_rfl) (by decide) (by kernel_rfl) hS (fun K hK => ?_)
  simp only [Mix.pick]
  repeat (go_big_quiet_step (fail))
  refine wpQuiet_nil (hK _ ?_)
  clear hK K
  refine MixH.done (by kernel_rfl) ?_
  go_wp2
  go_ret
  exact ⟨rfl, hS.2⟩
set_option maxHeartbeats 1600000 in
set_option maxRecDepth 100000 in
theorem skip_any (R : Nat) (s m : ByteArray) (p : Nat) (w : World) (h : RdAt w R s p) (hp : p ≤ s.size) (hs : s.size ≤ 1000) (hm : m.size ≤ 2) : Calls Tryz.prog 30 #[.pointer (some ⟨R, 0, none⟩), .string m] w fun r w' => r = .returned (.bool (stB s p m)) ∧ RdAt w' R s (if stB s p m then p + m.size else p) ∧ Ch (fun k => k = R) w w' := by
  have H : Hid (RdAt w R s p) := h
  have HP : Hid (p ≤ s.size ∧ s.size ≤ 1000 ∧ m.size ≤ 2) := ⟨hp, hs, hm⟩
  obtain ⟨b, hb⟩ : ∃ b, stB s p m = b := ⟨_, rfl⟩
  have HB : Hid (stB s p m = b) := hb
  rw [hb]
  clear h hp hs hm hb
  go_enter Tryz.func30, Tryz.ntmps30
  go_wp2_with fail
  refine (stands_any R s m p w H.out HP.out.1).mono ?_
  rintro e w1 ⟨rfl, hn⟩
  have H1 : Hid (RdS w w1 R s p) := (RdS.start H.out).mono hn
  rw [HB.out]
  clear hn
  cases b with
  | false =>
    go_wp2
    go_ret
    exact ⟨rfl, H1.out.1, H1.out.2.mono (fun _ _ h => h.elim)⟩
  | true =>
    have c1 := H1.out.1.c1
    have f1 := H1.out.1.fz 1
    have e1 : IntKind.i64.wrap ((p : Int) + (m.size : Int)) = (p : Int) + (m.size : Int) := i64_s _ (by omega) (by have := HP.out; omega)
    have H2 : Hid (RdAt (w1.setCell ⟨R, 1, none⟩ (.int .i64 ((p : Int) + (m.size : Int)))) R s (p + m.size)) := by
      have := H1.out.1.set (p + m.size)
      rw [Int.natCast_add] at this
      exact this
    go_wp2
    go_ret
    exact ⟨rfl, H2.out, (H1.out.2.mono (T := fun k => k = R) (fun _ _ h => h.elim)).set ⟨R, 1, none⟩ _ rfl⟩
end Go.Proofs.YteldiggaooeeeaaGreatDoor
