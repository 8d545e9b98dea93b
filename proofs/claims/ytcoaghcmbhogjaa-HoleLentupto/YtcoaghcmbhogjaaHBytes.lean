/-
  Bytes: bytes.Clone, Bytes; the statements' own same.
-/
import Derived.Test.YtcoaghcmbhogjaaHEq
import Derived.Deep.Onto
import Derived.Lib.SliceRun
namespace Go.Proofs.Ytcoaghcmbhogjaa
open Go.RowKit Go.Maps
namespace H11
def OwnB (w : World) (base : Nat) (v : Value) (n : Nat) (l : List Nat) : Prop := w.ownsRow base 5 1 v n ((toI l).map (Value.int .u8))
theorem seg_at {k : IntKind} {w : World} {a : Option Addr} {l : List Nat} (h : Seg k w a (toI l)) (i : Nat) (hi : i < l.length) : ∃ b off, a = some ⟨b, off, none⟩ ∧ ∀ j, j < l.length → w.cell? ⟨b, off + j, none⟩ = some (.int k ((l.getD j 0 : Nat) : Int)) := by
  rcases h with hnil | ⟨b, off, rfl, hc⟩
  · have := congrArg List.length hnil; rw [toI_len] at this; simp at this; subst this; simp at hi
  · refine ⟨b, off, rfl, fun j hj => ?_⟩
    have := hc j (by rw [toI_len]; exact hj)
    rwa [toI_getD] at this
theorem to_own {w : World} {g B n : Nat} {e : TypeId} {xs : List Value} (h : w.heap[g]? = some (.cells xs.toArray e (0, 0))) (hb : B ≤ g) (hn : xs.length = n) (hm : n ≤ maxLen) : w.ownsRow B e 1 (.slice (some ⟨g, 0, none⟩) n n) n xs :=
  ⟨by simpa using hn, .inr ⟨g, n, xs.toArray, rfl, hb, h, Nat.le_refl _, hm, by simpa using hn, by simp; rw [← hn]; simp⟩⟩
theorem take_same (l m : List Nat) (k : Nat) (h1 : k < l.length) (h2 : k < m.length) (he : l.take k = m.take k) (hk : l.getD k 0 = m.getD k 0) : Hid (l.take (k + 1) = m.take (k + 1)) := by
  show _ = _
  rw [List.take_succ_eq_append_getElem h1, List.take_succ_eq_append_getElem h2, he]
  simp [List.getD, h1, h2] at hk
  rw [hk]

set_option maxRecDepth 100000 in
set_option maxHeartbeats 1600000 in
theorem same_any (a b : Option Addr) (n1 n2 ca cb : Nat) (l m : List Nat) (w : World) (hn1 : l.length = n1) (hn2 : m.length = n2) (hl : Seg .u8 w a (toI l)) (hm : Seg .u8 w b (toI m)) (hl2 : n1 ≤ 9223372036854775807) :
    Calls Try.prog 16 #[.slice a n1 ca, .slice b n2 cb] w fun e w' => e = .returned (.bool (decide (l = m))) ∧ Below w.heap.size w w' := by
  subst hn1 hn2
  by_cases hlen : l.length = m.length
  · have h1 : ((l.length : Int) != (m.length : Int)) = false := by simp; omega
    have HLEN : Hid (l.length = m.length) := hlen
    obtain ⟨n, hn⟩ : ∃ n, n = l.length := ⟨_, rfl⟩
    have HN : Hid (l.length = n ∧ m.length = n) := ⟨hn.symm, by omega⟩
    have e2 : m.length = n := by omega
    rw [e2, ← hn]
    rw [← hn] at hl2
    clear h1 hlen hn e2
    have h1 : ((n : Int) != (n : Int)) = false := by simp
    go_enter Try.func16, Try.ntmps16
    go_wp2
    go_loopw [5] (fun ix wr => ∃ k : Nat, k ≤ n ∧ ix = .int .i64 k ∧ Hid (l.take k = m.take k) ∧ Below w.heap.size w wr) (fun ix _ => n - (intOf ix).toNat)
    case atStart => exact ⟨0, Nat.zero_le _, rfl, by show _ = _; simp, Below.refl _ _⟩
    case round =>
      obtain ⟨k, hk, rfl, HE, hbel⟩ := hrel
      by_cases hlt : k < n
      · obtain ⟨lb, loff, rfl, hlc⟩ := seg_at (hl.old hbel) k (by rw [HN.out.1]; exact hlt)
        obtain ⟨mb, moff, rfl, hmc⟩ := seg_at (hm.old hbel) k (by rw [HN.out.2]; exact hlt)
        have c1 := hlc k (by rw [HN.out.1]; exact hlt)
        have c2 := hmc k (by rw [HN.out.2]; exact hlt)
        obtain ⟨x, hx⟩ : ∃ x, x = l.getD k 0 := ⟨_, rfl⟩
        obtain ⟨y, hy⟩ : ∃ y, y = m.getD k 0 := ⟨_, rfl⟩
        rw [← hx] at c1
        rw [← hy] at c2
        have HX : Hid (x = l.getD k 0) := hx
        have HY : Hid (y = m.getD k 0) := hy
        clear hlc hmc hx hy
        by_cases hxy : x = y
        · subst hxy
          have hq : ((x : Int) != (x : Int)) = false := by simp
          go_wp2
          go_region
          go_wp2
          go_roundw
          case rel => exact ⟨k + 1, by omega, by go_num, take_same l m k (by rw [HN.out.1]; exact hlt) (by rw [HN.out.2]; exact hlt) HE.out (by rw [← HX.out, ← HY.out]), hbel.drew⟩
          case measure => simp [intOf]; omega
        · have hq : ((x : Int) != (y : Int)) = true := by simp; omega
          go_wp2
          go_region
          go_wp2
          go_ret
          have : l ≠ m := fun e => hxy (by rw [HX.out, HY.out, e])
          exact ⟨by simp [this], hbel.drew⟩
      · obtain rfl : k = n := by omega
        have : l = m := by
          have h := HE.out
          rw [List.take_of_length_le (by rw [HN.out.1]; omega), List.take_of_length_le (by rw [HN.out.2]; omega)] at h
          exact h
        have HLM : Hid (l = m) := this
        clear this
        go_wp2
        go_ret
        exact ⟨by simp [HLM.out], hbel⟩
  · have h1 : ((l.length : Int) != (m.length : Int)) = true := by rw [bne_iff_ne]; omega
    have hne : Hid (l ≠ m) := fun e => hlen (by rw [e])
    go_enter Try.func16, Try.ntmps16
    go_wp2
    go_ret
    exact ⟨by simp [hne.out], Below.refl _ _⟩

set_option maxHeartbeats 800000 in
set_option maxRecDepth 100000 in
theorem bclone_any (a : Option Addr) (n c : Nat) (l : List Nat) (w : World) (hn : l.length = n) (hs : Seg .u8 w a (toI l)) (hm : n ≤ 1048576) :
    Calls Try.prog 37 #[.slice a n c] w fun e w' => ∃ v, e = .returned v ∧ OwnB w' w.heap.size v n l ∧ Below w.heap.size w w' := by
  obtain ⟨i0, hi, hz0, hz1, hz2⟩ := info_parts Try.infoByte
  cases a with
  | none =>
    have hl : l = [] := by
      rcases hs with h | ⟨b, off, e, _⟩
      · simpa [toI] using h
      · cases e
    subst hl
    have hn0 : n = 0 := by simpa using hn.symm
    subst hn0
    have e0 : ∀ W : World, (binOp .eql 22 (.slice none 0 c) (.slice none 0 0)).run Try.prog W = .ok (.bool true) W := fun W => Lib.run_eql_slice_nil W 22 5 none 0 c 0 0 Try.underlying22
    go_enter Try.func37, Try.ntmps37
    go_wp2
    go_ret
    exact ⟨_, rfl, World.ownsRow_nil _ _ _ _, Below.refl _ _⟩
  | some x =>
    have e0 : ∀ W : World, (binOp .eql 22 (.slice (some x) n c) (.slice none 0 0)).run Try.prog W = .ok (.bool false) W := fun W => Lib.run_eql_slice_nil W 22 5 (some x) n c 0 0 Try.underlying22
    have hb : Below w.heap.size w (w.alloc (.cells #[] 5)) := (Below.refl _ _).alloc (Nat.le_refl _) _
    have ho : (w.alloc (.cells #[] 5)).ownsRow w.heap.size 5 1 (.slice (some ⟨w.heap.size, 0, none⟩) 0 0) 0 [] := to_own (heap_alloc_new _ _) (Nat.le_refl _) rfl (by decide)
    have HS : Hid _ := hs.old hb
    have HN : Hid (l.length = n) := hn
    have HB : Hid _ := hb
    have HOW : Hid _ := ho
    clear hb ho hs hn
    go_enter Try.func37, Try.ntmps37
    go_wp2_with (first | (at_builtin; refine append_split_seg rfl (.tmp 5) (.tmp 6) 22 rfl w.heap.size 5 i0 _ 1 Try.underlying22 hi hz0 hz1 hz2 rfl (.slice (some ⟨w.heap.size, 0, none⟩) 0 0) 0 [] rfl HOW.out .u8 (some x) n c (toI l) rfl (by rw [toI_len]; exact HN.out) HS.out (by unfold maxLen; omega) (by omega) (by simp) ?_))
    intro v' w' ho' _ hg
    have HF : Hid (Below w.heap.size w w') := HB.out.grown hg HB.out.size (by intro k hk; simp [Value.ownBlock] at hk; omega)
    have HO : Hid (OwnB w' w.heap.size v' n l) := by
      first | exact ho' | simpa using ho'
    clear ho' hg
    go_wp2
    go_ret
    exact ⟨_, rfl, HO.out, HF.out⟩

def bz (s : HS) (wh : Bool) : List Nat := if wh = true then s.bs else []
theorem bz_t (s : HS) : bz s true = s.bs := rfl
theorem bz_f (s : HS) : bz s false = [] := rfl
set_option maxRecDepth 100000 in
set_option maxHeartbeats 1600000 in
theorem bytes_any (w : World) (H : Nat) (s : HS) (v : HV) (h : HAt w H s v) (hl : s.bs.length ≤ 65535) (wh : Bool) (hw : wh = decide (0 < s.en ∧ s.gp = [])) :
    Calls Try.prog 14 #[.pointer (some ⟨H, 0, none⟩)] w fun r w' => ∃ ua n uc, r = .returned (.tuple #[.slice ua n uc, .bool wh]) ∧ (bz s wh).length = n ∧ w'.ownsRow w.heap.size 5 1 (.slice ua n uc) n ((toI (bz s wh)).map (Value.int .u8)) ∧ Below w.heap.size w w' := by
  have QW : Hid _ := whole_any w H s v h
  rw [← hw] at QW
  clear hw
  cases wh with
  | false =>
    clear hl h
    go_enter Try.func14, Try.ntmps14
    go_wp2_with fail
    refine Calls.mono QW.out ?_
    rintro e w1 ⟨rfl, rfl⟩
    clear QW
    go_wp2
    go_ret2
    exact ⟨none, 0, 0, rfl, rfl, World.ownsRow_nil _ _ _ _, Below.refl _ _⟩
  | true =>
    obtain ⟨ba, bc, hbv, hsg, hsl, _, _⟩ := owns_seg h.bo (k := .u8)
    have c2 := h.c2
    rw [hbv] at c2
    obtain ⟨L, hL⟩ : ∃ L, L = s.bs.length := ⟨_, rfl⟩
    rw [← hL] at c2 hl
    have QC : Hid _ := bclone_any ba L bc s.bs w hL.symm hsg (by omega)
    have HLL : Hid (L = s.bs.length) := hL
    clear hbv hsg hsl hL h hl
    go_enter Try.func14, Try.ntmps14
    go_wp2_with fail
    refine Calls.mono QW.out ?_
    rintro e w1 ⟨rfl, rfl⟩
    clear QW
    go_wp2_with fail
    refine Calls.mono QC.out ?_
    rintro e w1 ⟨u, rfl, ho, hb⟩
    unfold OwnB at ho
    obtain ⟨ua, uc, rfl⟩ := owns_shape ho
    have HO : Hid _ := ho
    clear ho QC
    go_wp2
    go_ret2
    exact ⟨ua, L, uc, rfl, HLL.out.symm, HO.out, hb⟩
end H11
end Go.Proofs.Ytcoaghcmbhogjaa
