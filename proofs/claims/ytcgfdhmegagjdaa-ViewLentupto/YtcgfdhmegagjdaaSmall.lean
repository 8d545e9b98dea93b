/-
  The statements' own small functions: num, same, sameInts; and what is asked ahead of every script: started.
-/
import Derived.Test.YtcgfdhmegagjdaaUint
namespace Go.Proofs.Ytcgfdhmegagjdaa
open Go.RowKit

theorem num_any (x : Int) (w : World) : Calls Try.prog 9 #[.int .i64 x] w fun e w' => e = .returned (.int .i64 x) ∧ w = w' := by
  go_enter Try.func9, Try.ntmps9
  go_wp2
  go_ret
  exact ⟨rfl, rfl⟩

def strOf (l : List Nat) : ByteArray := ⟨(l.map UInt8.ofNat).toArray⟩
theorem strOf_eq (a b : List Nat) (ha : ∀ x ∈ a, x < 256) (hb : ∀ x ∈ b, x < 256) (h : strOf a = strOf b) : a = b := by
  have h1 : (a.map UInt8.ofNat).toArray = (b.map UInt8.ofNat).toArray := congrArg ByteArray.data h
  have h2 : a.map UInt8.ofNat = b.map UInt8.ofNat := by simpa using h1
  have e : ∀ l : List Nat, (∀ x ∈ l, x < 256) → (l.map UInt8.ofNat).map UInt8.toNat = l := by
    intro l hl
    rw [List.map_map]
    conv => rhs; rw [← List.map_id l]
    apply List.map_congr_left
    intro x hx
    have := hl x hx
    simp [Nat.mod_eq_of_lt this]
  rw [← e a ha, ← e b hb, h2]

theorem conv_any (w : World) (a : Option Addr) (cap : Nat) (l : List Nat) (hs : Seg .u8 w a (toI l)) (h256 : ∀ x ∈ l, x < 256) :
    (convert 22 9 (.slice a l.length cap)).run Try.prog w = .ok (.string (strOf l)) w := by
  rcases hs with hnil | ⟨b, off, rfl, hc⟩
  · have h0 : l = [] := by cases l with | nil => rfl | cons x l => simp [toI] at hnil
    subst h0
    cases a with
    | none => rw [run_convert_bytes_string w 22 9 5 none _ cap Try.underlying22 Try.underlying5 Try.underlying9]; rfl
    | some ad => exact run_convert_bytes_back w 22 9 5 ad cap [] Try.underlying22 Try.underlying5 Try.underlying9 (by intro j hj; simp at hj)
  · have := run_convert_bytes_back (P := Try.prog) w 22 9 5 ⟨b, off, none⟩ cap (l.map UInt8.ofNat) Try.underlying22 Try.underlying5 Try.underlying9 (by
      intro j hj
      have hj' : j < l.length := by simpa using hj
      have h := hc j (by rw [toI_len]; exact hj')
      rw [toI_getD] at h
      have hl := h256 l[j] (List.getElem_mem _)
      simp [List.getD, hj'] at h
      rw [Addr.add_lit, h]
      simp [Nat.mod_eq_of_lt hl])
    rw [List.length_map] at this
    exact this

set_option maxHeartbeats 400000 in
set_option maxRecDepth 100000 in
theorem same_any (a b : Option Addr) (ca cb : Nat) (l m : List Nat) (w : World) (hl : Seg .u8 w a (toI l)) (hm : Seg .u8 w b (toI m)) (hl2 : ∀ x ∈ l, x < 256) (hm2 : ∀ x ∈ m, x < 256) :
    Calls Try.prog 19 #[.slice a l.length ca, .slice b m.length cb] w fun e w' => e = .returned (.bool (decide (l = m))) ∧ w = w' := by
  have k1 := conv_any w a ca l hl hl2
  have k2 := conv_any w b cb m hm hm2
  obtain ⟨s, hs⟩ : ∃ s, s = strOf l := ⟨_, rfl⟩
  obtain ⟨t, ht⟩ : ∃ t, t = strOf m := ⟨_, rfl⟩
  rw [← hs] at k1
  rw [← ht] at k2
  have HD : Hid ((s.toList == t.toList) = decide (l = m)) := by
    show (s.toList == t.toList) = decide (l = m)
    rw [hs, ht, ByteArray.toList_eq, ByteArray.toList_eq]
    by_cases h : l = m
    · subst h; simp
    · have : (strOf l).data.toList ≠ (strOf m).data.toList := fun e => h (strOf_eq l m hl2 hm2 (WideShapes.bytes_inj e))
      rw [decide_eq_false h]
      simpa using this
  clear hs ht
  go_enter Try.func19, Try.ntmps19
  go_wp2
  go_ret
  exact ⟨congrArg (fun b => Ending.returned (.bool b)) HD.out, rfl⟩

theorem take_same (l m : List Int) (k : Nat) (h1 : k < l.length) (h2 : k < m.length) (he : l.take k = m.take k) (hk : l.getD k 0 = m.getD k 0) : Hid (l.take (k + 1) = m.take (k + 1)) := by
  show _ = _
  rw [List.take_succ_eq_append_getElem h1, List.take_succ_eq_append_getElem h2, he]
  simp [List.getD, h1, h2] at hk
  rw [hk]

set_option maxHeartbeats 400000 in
set_option maxRecDepth 100000 in
theorem sameInts_any (a b : Option Addr) (ca cb : Nat) (l m : List Int) (w : World) (hl : Seg .i64 w a l) (hm : Seg .i64 w b m) (hl2 : l.length ≤ 9223372036854775807) :
    Calls Try.prog 18 #[.slice a l.length ca, .slice b m.length cb] w fun e w' => e = .returned (.bool (decide (l = m))) ∧ Below w.heap.size w w' := by
  by_cases hlen : l.length = m.length
  · have h1 : ((l.length : Int) != (m.length : Int)) = false := by simp; omega
    go_enter Try.func18, Try.ntmps18
    go_wp2
    go_loopw [5] (fun ix wr => ∃ k : Nat, k ≤ l.length ∧ ix = .int .i64 k ∧ Hid (l.take k = m.take k) ∧ Below w.heap.size w wr) (fun ix _ => l.length - (intOf ix).toNat)
    case atStart => exact ⟨0, Nat.zero_le _, rfl, by show _ = _; simp, Below.refl _ _⟩
    case round =>
      obtain ⟨k, hk, rfl, HE, hbel⟩ := hrel
      by_cases hlt : k < l.length
      · have hl1 := hl.old hbel
        have hm1 := hm.old hbel
        rcases hl1 with hnil | ⟨lb, loff, rfl, hlc⟩
        · exact absurd hlt (by rw [hnil]; simp)
        rcases hm1 with hnil | ⟨mb, moff, rfl, hmc⟩
        · exact absurd hlt (by rw [hlen, hnil]; simp)
        have c1 := hlc k hlt
        have c2 := hmc k (by omega)
        obtain ⟨x, hx⟩ : ∃ x, x = l.getD k 0 := ⟨_, rfl⟩
        obtain ⟨y, hy⟩ : ∃ y, y = m.getD k 0 := ⟨_, rfl⟩
        rw [← hx] at c1
        rw [← hy] at c2
        have HX : Hid (x = l.getD k 0) := hx
        have HY : Hid (y = m.getD k 0) := hy
        have HL : Hid (l.length = m.length) := hlen
        have hm3 : k < m.length := by omega
        clear hlc hmc hx hy hlen
        by_cases hxy : x = y
        · subst hxy
          have hq : (x != x) = false := by simp
          go_wp2
          go_region
          go_wp2
          go_roundw
          case rel => exact ⟨k + 1, by omega, by go_num, take_same l m k hlt hm3 HE.out (by rw [← HX.out, ← HY.out]), hbel.drew⟩
          case measure => simp [intOf]; omega
        · have hq : (x != y) = true := by simpa using hxy
          go_wp2
          go_region
          go_wp2
          go_ret
          have : l ≠ m := fun e => hxy (by rw [HX.out, HY.out, e])
          exact ⟨by simp [this], hbel.drew⟩
      · obtain rfl : k = l.length := by omega
        have : l = m := by
          have h := HE.out
          rw [List.take_length, hlen, List.take_length] at h
          exact h
        have HLM : Hid (l = m) := this
        clear this
        go_wp2
        go_ret
        exact ⟨by simp [HLM.out], hbel⟩
  · have h1 : ((l.length : Int) != (m.length : Int)) = true := by rw [bne_iff_ne]; omega
    have hne : Hid (l ≠ m) := fun e => hlen (by rw [e])
    go_enter Try.func18, Try.ntmps18
    go_wp2
    go_ret
    exact ⟨by simp [hne.out], Below.refl _ _⟩

theorem owns_seg {w : World} {base : Nat} {e : TypeId} {v : Value} {n : Nat} {k : IntKind} {zs : List Int} (h : w.ownsRow base e 1 v n (zs.map (Value.int k))) :
    ∃ a c, v = .slice a n c ∧ Seg k w a zs ∧ zs.length = n ∧ n ≤ c ∧ c ≤ maxLen := by
  have hl : zs.length = n := by have := h.1; simpa using this
  rcases h.2 with ⟨rfl, rfl⟩ | ⟨g, cap, cur, rfl, hg, hh, hnc, hcm, r⟩
  · exact ⟨none, 0, rfl, .inl (List.eq_nil_of_length_eq_zero hl), hl, Nat.le_refl _, Nat.zero_le _⟩
  · refine ⟨_, _, rfl, .inr ⟨g, 0, rfl, ?_⟩, hl, hnc, hcm⟩
    intro i hi
    have := h.cellAt i (by omega)
    rw [Nat.zero_add, this]
    simp [List.getD, hi]
theorem toI_map (k : IntKind) (l : List Nat) : l.map (fun x : Nat => Value.int k (x : Int)) = (toI l).map (Value.int k) := by simp [toI]
theorem seg_new3 (w : World) (k : IntKind) (t : TypeId) (zs : List Int) : Seg k (w.alloc (.cells (zs.map (Value.int k)).toArray t)) (some ⟨w.heap.size, 0, none⟩) zs := by
  refine .inr ⟨_, _, rfl, ?_⟩
  intro i hi
  rw [Nat.zero_add, World.cell?_alloc_at _ _ _ _ rfl]
  simp [List.getD, hi]

theorem started_uint (w : World) : Calls Try.prog 46 #[.slice (some ⟨w.heap.size, 0, none⟩) 3 3, .int .i64 1, .int .i64 2] (w.alloc (.cells #[.int .u8 1, .int .u8 2, .int .u8 3] 5)) fun e w' =>
    e = .returned (.tuple #[.int .u64 515, .int .i64 0]) ∧ Below w.heap.size w w' := by
  have hs : Seg .u8 (w.alloc (.cells #[.int .u8 1, .int .u8 2, .int .u8 3] 5)) (some ⟨w.heap.size, 0, none⟩) (toI [1, 2, 3]) := seg_new3 w .u8 5 [1, 2, 3]
  refine (uint_ok (some ⟨w.heap.size, 0, none⟩) 3 1 2 [1, 2, 3] _ hs (by decide) (by decide) (by decide) (by decide) (by decide) (by decide)).mono ?_
  rintro e w' ⟨rfl, hb⟩
  exact ⟨rfl, ((Below.refl _ _).alloc (Nat.le_refl _) _).trans (hb.mono (by simp))⟩
theorem started_fields (w : World) : Calls Try.prog 16 #[.slice (some ⟨w.heap.size, 0, none⟩) 3 3, .int .i64 0, .slice (some ⟨w.heap.size + 1, 0, none⟩) 4 4]
    ((w.alloc (.cells #[.int .u8 69, .int .u8 192, .int .u8 255] 5)).alloc (.cells #[.int .i64 4, .int .i64 4, .int .i64 6, .int .i64 2] 3)) fun e w' =>
    ∃ a c, e = .returned (.tuple #[.slice a 4 c, .int .i64 2, .int .i64 0]) ∧ Below w.heap.size w w' ∧ Seg .i64 w' a [4, 5, 48, 0] := by
  have hs0 : Seg .u8 (w.alloc (.cells #[.int .u8 69, .int .u8 192, .int .u8 255] 5)) (some ⟨w.heap.size, 0, none⟩) (toI [69, 192, 255]) := seg_new3 w .u8 5 [69, 192, 255]
  have hs := hs0.old ((Below.refl _ _).alloc (Nat.le_refl _) (.cells #[.int .i64 4, .int .i64 4, .int .i64 6, .int .i64 2] 3))
  have ht := seg_new3 (w.alloc (.cells #[.int .u8 69, .int .u8 192, .int .u8 255] 5)) .i64 3 [4, 4, 6, 2]
  rw [World.size_alloc] at ht
  refine (fields_ok (some ⟨w.heap.size, 0, none⟩) (some ⟨w.heap.size + 1, 0, none⟩) 3 4 0 2 [69, 192, 255] [4, 4, 6, 2] _ hs ht (by decide) (by decide) (by decide) (by decide) (by decide) (by decide) (by decide)).mono ?_
  rintro e w' ⟨v, rfl, hown, hb⟩
  rw [toI_map] at hown
  obtain ⟨a, c, rfl, hseg, _⟩ := owns_seg hown
  exact ⟨a, c, rfl, (((Below.refl _ _).alloc (Nat.le_refl _) _).alloc (by simp) _).trans (hb.mono (by simp; omega)), hseg⟩

theorem started_same (w : World) (a : Option Addr) (c : Nat) (hs : Seg .i64 w a [4, 5, 48, 0]) : Calls Try.prog 18 #[.slice a 4 c, .slice (some ⟨w.heap.size, 0, none⟩) 4 4]
    (w.alloc (.cells #[.int .i64 4, .int .i64 5, .int .i64 48, .int .i64 0] 3)) fun e w' => e = .returned (.bool true) ∧ Below w.heap.size w w' := by
  have hs1 := hs.old ((Below.refl _ _).alloc (Nat.le_refl _) (.cells #[.int .i64 4, .int .i64 5, .int .i64 48, .int .i64 0] 3))
  have ht := seg_new3 w .i64 3 [4, 5, 48, 0]
  refine (sameInts_any a (some ⟨w.heap.size, 0, none⟩) c 4 [4, 5, 48, 0] [4, 5, 48, 0] _ hs1 ht (by decide)).mono ?_
  rintro e w' ⟨rfl, hb⟩
  exact ⟨rfl, ((Below.refl _ _).alloc (Nat.le_refl _) _).trans (hb.mono (by simp))⟩

set_option maxHeartbeats 400000 in
set_option maxRecDepth 100000 in
theorem started_any (w : World) : Calls Try.prog 26 #[] w fun e w' => e = .returned (.bool true) ∧ Below w.heap.size w w' := by
  go_enter Try.func26, Try.ntmps26
  go_wp2_with fail
  refine (started_uint w).mono ?_
  rintro e w1 ⟨rfl, hb1⟩
  go_wp2_with fail
  refine (started_fields w1).mono ?_
  rintro e w2 ⟨a, c, rfl, hb2, hs2⟩
  go_wp2_with (first | (go_at_call 9; refine (num_any _ _).mono ?_; rintro e w' ⟨rfl, rfl⟩))
  refine (started_same _ a c hs2).mono ?_
  rintro e w3 ⟨rfl, hb3⟩
  go_wp2_with (first | (go_at_call 9; refine (num_any _ _).mono ?_; rintro e w' ⟨rfl, rfl⟩))
  go_ret
  exact ⟨rfl, hb1.trans ((hb2.trans (hb3.mono hb2.size)).mono hb1.size)⟩
end Go.Proofs.Ytcgfdhmegagjdaa
