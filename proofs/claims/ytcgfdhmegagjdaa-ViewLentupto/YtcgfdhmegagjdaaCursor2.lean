/-
  The cursor's calls, of any number; the document's own cursor beside it.
-/
import Derived.Test.YtcgfdhmegagjdaaCursor
import Derived.Test.YtcgfdhmegagjdaaRef
namespace Go.Proofs.Ytcgfdhmegagjdaa
open Go.RowKit

/-- where a cursor stands behind a call -/
def np (er : Int) (p : Nat) (n : Int) : Nat := if er = 0 then p + n.toNat else p
theorem np_ok (p : Nat) (n : Int) : np 0 p n = p + n.toNat := rfl
theorem np_no (er : Int) (h : er ≠ 0) (p : Nat) (n : Int) : np er p n = p := if_neg h

/-- the document's own cursor -/
structure RCur (w : World) (B : Nat) (a : Option Addr) (len cap p : Nat) : Prop where
  c0 : w.cell? ⟨B, 0, none⟩ = some (.slice a len cap)
  c1 : w.cell? ⟨B, 1, none⟩ = some (.int .i64 p)
  fz : ∀ j, w.frozen? ⟨B, j, none⟩ = false
  lt : B < w.heap.size
theorem RCur.grown {w w' : World} {B : Nat} {a : Option Addr} {len cap p : Nat} {r : Option Nat} (h : RCur w B a len cap p) (hg : w.grownBy w' r) (hr : some B ≠ r) : RCur w' B a len cap p :=
  ⟨hg.cell h.c0 (by simpa using hr), hg.cell h.c1 (by simpa using hr), fun j => by rw [World.frozen?_of_block (hg.block B h.lt hr)]; exact h.fz j, Nat.lt_of_lt_of_le h.lt hg.size⟩
theorem RCur.below {w w' : World} {B : Nat} {a : Option Addr} {len cap p : Nat} (h : RCur w B a len cap p) (hb : Below w.heap.size w w') : RCur w' B a len cap p :=
  ⟨(hb.cell h.lt).trans h.c0, (hb.cell h.lt).trans h.c1, fun j => by rw [World.frozen?_of_block (hb.block B h.lt)]; exact h.fz j, Nat.lt_of_lt_of_le h.lt hb.size⟩
theorem rcur_set {w w1 : World} {B : Nat} {a : Option Addr} {len cap p : Nat} (h : RCur w B a len cap p) (hb : Below w.heap.size w w1) (q : Nat) (x : Int) (hx : x = q) :
    RCur (w1.setCell ⟨B, 1, none⟩ (.int .i64 x)) B a len cap q ∧ w.grownBy (w1.setCell ⟨B, 1, none⟩ (.int .i64 x)) (some B) := by
  have h1 := h.below hb
  refine ⟨⟨?_, ?_, ?_, ?_⟩, ?_⟩
  · rw [World.cell?_setCell_other _ _ _ _ (by simp)]; exact h1.c0
  · rw [World.cell?_setCell_same _ _ _ h1.c1, hx]
  · intro j; rw [World.frozen?_setCell]; exact h1.fz j
  · simpa using h1.lt
  · refine ⟨hb.os, hb.tape, hb.output, by simpa using hb.size, fun k hk hr => ?_⟩
    rw [heap_setCell_other _ _ _ _ (fun e => hr (by rw [e]))]
    exact hb.block k hk
theorem cur_rcur {w : World} {B : Nat} {a : Option Addr} {len p : Nat} (h : RCur w B a len len p) : Cur w B a len p := ⟨h.c0, h.c1, h.fz, h.lt⟩
theorem rcur_cur {w : World} {B : Nat} {a : Option Addr} {len p : Nat} (h : Cur w B a len p) : RCur w B a len len p := ⟨h.c0, h.c1, h.fz, h.lt⟩

set_option maxRecDepth 100000 in
set_option maxHeartbeats 800000 in
theorem curUint_go (B : Nat) (a : Option Addr) (len p : Nat) (n v er : Int) (w : World) (h : Cur w B a len p) (her : er = 1 ∨ er = 10 ∨ er = 0) (h3 : len ≤ 1048576) (hn : er = 0 → 0 ≤ n ∧ p + n ≤ len)
    (hw : ∀ W, Below w.heap.size w W → Calls Try.prog 46 #[.slice a len len, .int .i64 p, .int .i64 n] W fun e w' => e = .returned (.tuple #[.int .u64 v, .int .i64 er]) ∧ Below W.heap.size W w') :
    Calls Try.prog 28 #[.pointer (some ⟨B, 0, none⟩), .int .i64 n] w fun e w' => e = .returned (.tuple #[.int .u64 v, .int .i64 er]) ∧ Cur w' B a len (np er p n) ∧ w.grownBy w' (some B) := by
  have h0 := h.c0
  have h1 := h.c1
  have HW : Hid (∀ W, Below w.heap.size w W → Calls Try.prog 46 #[.slice a len len, .int .i64 p, .int .i64 n] W fun e w' => e = .returned (.tuple #[.int .u64 v, .int .i64 er]) ∧ Below W.heap.size W w') := hw
  clear hw
  rcases her with rfl | rfl | rfl
  · clear hn
    go_enter Try.func28, Try.ntmps28
    go_wp2_with fail
    go_region_with (go_at_call 46; refine (HW.out _ (Below.refl _ _).drew).mono ?_; rintro e w1 ⟨rfl, hb1⟩)
    all_goals
      go_wp2
      go_ret2
      exact ⟨rfl, h.below (un_drew hb1), grown_below (un_drew hb1) _⟩
  · clear hn
    go_enter Try.func28, Try.ntmps28
    go_wp2_with fail
    go_region_with (go_at_call 46; refine (HW.out _ (Below.refl _ _).drew).mono ?_; rintro e w1 ⟨rfl, hb1⟩)
    all_goals
      go_wp2
      go_ret2
      exact ⟨rfl, h.below (un_drew hb1), grown_below (un_drew hb1) _⟩
  · obtain ⟨hn0, hn1⟩ := hn rfl
    clear hn
    go_enter Try.func28, Try.ntmps28
    go_wp2_with fail
    go_region_with (go_at_call 46; refine (HW.out _ (Below.refl _ _).drew).mono ?_; rintro e w1 ⟨rfl, hb1⟩)
    all_goals
      have d1 : w1.cell? ⟨B, 1, none⟩ = some (.int .i64 p) := (hb1.cell h.lt).trans h1
      have f1 : w1.frozen? ⟨B, 1, none⟩ = false := by rw [World.frozen?_of_block (hb1.block B h.lt)]; exact h.fz 1
      go_wp2
      go_ret2
      exact ⟨rfl, cur_set h (un_drew hb1) (p + n.toNat) _ (by omega)⟩
theorem uE_cases (len : Nat) (at' n : Int) : uE len at' n = 1 ∨ uE len at' n = 10 ∨ uE len at' n = 0 := by
  unfold uE
  split
  · exact .inl rfl
  · split
    · exact .inr (.inl rfl)
    · exact .inr (.inr rfl)
theorem wE_cases (len : Nat) (at' n : Int) : wE len at' n = 1 ∨ wE len at' n = 10 ∨ wE len at' n = 0 := by
  unfold wE
  split
  · exact .inl rfl
  · split
    · exact .inr (.inl rfl)
    · exact .inr (.inr rfl)
theorem curUint_total (B : Nat) (a : Option Addr) (p : Nat) (n : Int) (bs : List Nat) (w : World) (h : Cur w B a bs.length p) (hb : Seg .u8 w a (toI bs)) (h256 : ∀ x ∈ bs, x < 256) (h3 : bs.length ≤ 1048576) (hp : p ≤ bs.length) :
    Calls Try.prog 28 #[.pointer (some ⟨B, 0, none⟩), .int .i64 n] w fun e w' => e = .returned (.tuple #[.int .u64 (uV bs p n), .int .i64 (uE bs.length p n)]) ∧ Cur w' B a bs.length (np (uE bs.length p n) p n) ∧ w.grownBy w' (some B) :=
  curUint_go B a bs.length p n _ _ w h (uE_cases _ _ _) h3 (fun e => by have := (uE_zero _ _ _).1 e; omega)
    (fun W hB => uint_total a bs.length bs.length p n bs W rfl (hb.old hB) h256 (Nat.le_refl _) (by omega) (by omega))

theorem curSkip_total (B : Nat) (a : Option Addr) (len p : Nat) (n : Int) (w : World) (h : Cur w B a len p) (h3 : len ≤ 1048576) (hp : p ≤ len) (hn : n ≤ 9223372036854775807) :
    Calls Try.prog 22 #[.pointer (some ⟨B, 0, none⟩), .int .i64 n] w fun e w' => e = .returned (.int .i64 (wE len p n)) ∧ Cur w' B a len (np (wE len p n) p n) ∧ w.grownBy w' (some B) := by
  by_cases h1 : n < 0 ∨ (len : Int) < p + n
  · have e1 : wE len p n = if n < 0 then 1 else 10 := by unfold wE; by_cases h0 : n < 0 <;> simp [h0]; omega
    have e2 : wE len p n ≠ 0 := by rw [e1]; split <;> decide
    rw [np_no _ e2, e1]
    refine (curSkip_bad B a len p n w h hp (by omega) hn h1).mono ?_
    rintro e w' ⟨rfl, hb'⟩
    exact ⟨rfl, h.below hb', grown_below hb' _⟩
  · obtain ⟨m, rfl⟩ : ∃ m : Nat, n = (m : Int) := ⟨n.toNat, by omega⟩
    have e1 : wE len p m = 0 := by rw [wE_zero]; omega
    rw [e1, np_ok]
    refine (curSkip_ok B a len p m w h (by omega) (by omega)).mono ?_
    rintro e w' ⟨rfl, hc, hg⟩
    exact ⟨rfl, by simpa using hc, hg⟩

set_option maxHeartbeats 400000 in
theorem curLeft_any (B : Nat) (a : Option Addr) (len p : Nat) (w : World) (h : Cur w B a len p) (h3 : len ≤ 1048576) (hp : p ≤ len) :
    Calls Try.prog 25 #[.pointer (some ⟨B, 0, none⟩)] w fun e w' => e = .returned (.int .i64 ((len : Int) - p)) ∧ Below w.heap.size w w' := by
  have h0 := h.c0
  have h1 := h.c1
  go_enter Try.func25, Try.ntmps25
  go_wp2
  try go_region
  all_goals
    go_wp2
    go_ret
    exact ⟨rfl, (Below.refl _ _).drew⟩
set_option maxHeartbeats 400000 in
theorem curPlace_any (B : Nat) (a : Option Addr) (len p : Nat) (w : World) (h : Cur w B a len p) :
    Calls Try.prog 24 #[.pointer (some ⟨B, 0, none⟩)] w fun e w' => e = .returned (.int .i64 p) ∧ w = w' := by
  have h1 := h.c1
  go_enter Try.func24, Try.ntmps24
  go_wp2
  go_ret
  exact ⟨rfl, rfl⟩

set_option maxRecDepth 100000 in
set_option maxHeartbeats 800000 in
theorem rcurUint_go (B : Nat) (a : Option Addr) (len cap p : Nat) (n v er : Int) (w : World) (h : RCur w B a len cap p) (her : er = 1 ∨ er = 10 ∨ er = 0) (h3 : len ≤ 1048576) (hn : er = 0 → 0 ≤ n ∧ p + n ≤ len)
    (hw : ∀ W, Below w.heap.size w W → Calls Try.prog 56 #[.slice a len cap, .int .i64 p, .int .i64 n] W fun e w' => e = .returned (.tuple #[.int .u64 v, .int .i64 er]) ∧ W = w') :
    Calls Try.prog 47 #[.pointer (some ⟨B, 0, none⟩), .int .i64 n] w fun e w' => e = .returned (.tuple #[.int .u64 v, .int .i64 er]) ∧ RCur w' B a len cap (np er p n) ∧ w.grownBy w' (some B) := by
  have h0 := h.c0
  have h1 := h.c1
  have HW : Hid (∀ W, Below w.heap.size w W → Calls Try.prog 56 #[.slice a len cap, .int .i64 p, .int .i64 n] W fun e w' => e = .returned (.tuple #[.int .u64 v, .int .i64 er]) ∧ W = w') := hw
  clear hw
  rcases her with rfl | rfl | rfl
  · clear hn
    go_enter Try.func47, Try.ntmps47
    go_wp2_with fail
    go_region_with (go_at_call 56; refine (HW.out _ (Below.refl _ _).drew).mono ?_; rintro e w1 ⟨rfl, rfl⟩)
    all_goals
      go_wp2
      go_ret2
      exact ⟨rfl, h.below (Below.refl _ _).drew, grown_below (Below.refl _ _).drew _⟩
  · clear hn
    go_enter Try.func47, Try.ntmps47
    go_wp2_with fail
    go_region_with (go_at_call 56; refine (HW.out _ (Below.refl _ _).drew).mono ?_; rintro e w1 ⟨rfl, rfl⟩)
    all_goals
      go_wp2
      go_ret2
      exact ⟨rfl, h.below (Below.refl _ _).drew, grown_below (Below.refl _ _).drew _⟩
  · obtain ⟨hn0, hn1⟩ := hn rfl
    clear hn
    have hf1 := h.fz 1
    go_enter Try.func47, Try.ntmps47
    go_wp2_with fail
    go_region_with (go_at_call 56; refine (HW.out _ (Below.refl _ _).drew).mono ?_; rintro e w1 ⟨rfl, rfl⟩)
    all_goals
      go_wp2
      go_ret2
      exact ⟨rfl, rcur_set h (Below.refl _ _).drew (p + n.toNat) _ (by omega)⟩
theorem rcurUint_total (B : Nat) (a : Option Addr) (cap p : Nat) (n : Int) (bs : List Nat) (w : World) (h : RCur w B a bs.length cap p) (hb : Seg .u8 w a (toI bs)) (h256 : ∀ x ∈ bs, x < 256) (h3 : bs.length ≤ 1048576) (hp : p ≤ bs.length) :
    Calls Try.prog 47 #[.pointer (some ⟨B, 0, none⟩), .int .i64 n] w fun e w' => e = .returned (.tuple #[.int .u64 (uV bs p n), .int .i64 (uE bs.length p n)]) ∧ RCur w' B a bs.length cap (np (uE bs.length p n) p n) ∧ w.grownBy w' (some B) :=
  rcurUint_go B a bs.length cap p n _ _ w h (uE_cases _ _ _) h3 (fun e => by have := (uE_zero _ _ _).1 e; omega)
    (fun W hB => refUint_total a bs.length cap p n bs W rfl (hb.old hB) h256 (by omega) (by omega))

set_option maxRecDepth 100000 in
set_option maxHeartbeats 800000 in
theorem rcurWindow_go (B : Nat) (a : Option Addr) (len cap p : Nat) (n er : Int) (m : Nat) (xs : List Value) (w : World) (h : RCur w B a len cap p) (her : er = 1 ∨ er = 10 ∨ er = 0) (h3 : len ≤ 1048576) (hn : er = 0 → 0 ≤ n ∧ p + n ≤ len)
    (hw : ∀ W, Below w.heap.size w W → Calls Try.prog 57 #[.slice a len cap, .int .i64 p, .int .i64 n] W fun e w' => ∃ v, e = .returned (.tuple #[v, .int .i64 er]) ∧ w'.ownsRow W.heap.size 5 1 v m xs ∧ Below W.heap.size W w') :
    Calls Try.prog 48 #[.pointer (some ⟨B, 0, none⟩), .int .i64 n] w fun e w' => ∃ v, e = .returned (.tuple #[v, .int .i64 er]) ∧ w'.ownsRow w.heap.size 5 1 v m xs ∧ RCur w' B a len cap (np er p n) ∧ w.grownBy w' (some B) := by
  have h0 := h.c0
  have h1 := h.c1
  have HW : Hid (∀ W, Below w.heap.size w W → Calls Try.prog 57 #[.slice a len cap, .int .i64 p, .int .i64 n] W fun e w' => ∃ v, e = .returned (.tuple #[v, .int .i64 er]) ∧ w'.ownsRow W.heap.size 5 1 v m xs ∧ Below W.heap.size W w') := hw
  clear hw
  rcases her with rfl | rfl | rfl
  · clear hn
    go_enter Try.func48, Try.ntmps48
    go_wp2_with fail
    go_region_with (go_at_call 57; refine (HW.out _ (Below.refl _ _).drew).mono ?_; rintro e w1 ⟨v, rfl, ho1, hb1⟩)
    all_goals
      go_wp2
      go_ret2
      exact ⟨_, rfl, ho1, h.below (un_drew hb1), grown_below (un_drew hb1) _⟩
  · clear hn
    go_enter Try.func48, Try.ntmps48
    go_wp2_with fail
    go_region_with (go_at_call 57; refine (HW.out _ (Below.refl _ _).drew).mono ?_; rintro e w1 ⟨v, rfl, ho1, hb1⟩)
    all_goals
      go_wp2
      go_ret2
      exact ⟨_, rfl, ho1, h.below (un_drew hb1), grown_below (un_drew hb1) _⟩
  · obtain ⟨hn0, hn1⟩ := hn rfl
    clear hn
    go_enter Try.func48, Try.ntmps48
    go_wp2_with fail
    go_region_with (go_at_call 57; refine (HW.out _ (Below.refl _ _).drew).mono ?_; rintro e w1 ⟨v, rfl, ho1, hb1⟩)
    all_goals
      have d1 : w1.cell? ⟨B, 1, none⟩ = some (.int .i64 p) := (hb1.cell h.lt).trans h1
      have f1 : w1.frozen? ⟨B, 1, none⟩ = false := by rw [World.frozen?_of_block (hb1.block B h.lt)]; exact h.fz 1
      go_wp2
      go_ret2
      exact ⟨_, rfl, ownsRow_setCell_below ho1 (a := ⟨B, 1, none⟩) h.lt _, rcur_set h (un_drew hb1) (p + n.toNat) _ (by omega)⟩
theorem rcurWindow_total (B : Nat) (a : Option Addr) (cap p : Nat) (n : Int) (bs : List Nat) (w : World) (h : RCur w B a bs.length cap p) (hb : Seg .u8 w a (toI bs)) (h3 : bs.length ≤ 1048576) (hp : p ≤ bs.length) :
    Calls Try.prog 48 #[.pointer (some ⟨B, 0, none⟩), .int .i64 n] w fun e w' => ∃ v, e = .returned (.tuple #[v, .int .i64 (wE bs.length p n)]) ∧ w'.ownsRow w.heap.size 5 1 v (wB bs p n).length ((toI (wB bs p n)).map (Value.int .u8)) ∧ RCur w' B a bs.length cap (np (wE bs.length p n) p n) ∧ w.grownBy w' (some B) :=
  rcurWindow_go B a bs.length cap p n _ _ _ w h (wE_cases _ _ _) h3 (fun e => by have := (wE_zero _ _ _).1 e; omega)
    (fun W hB => refWindow_total a bs.length cap p n bs W rfl (hb.old hB) (by omega) (by omega))
set_option maxHeartbeats 400000 in
theorem rcurSkip_total (B : Nat) (a : Option Addr) (cap p : Nat) (n : Int) (bs : List Nat) (w : World) (h : RCur w B a bs.length cap p) (hb : Seg .u8 w a (toI bs)) (h3 : bs.length ≤ 1048576) (hp : p ≤ bs.length) :
    Calls Try.prog 49 #[.pointer (some ⟨B, 0, none⟩), .int .i64 n] w fun e w' => e = .returned (.int .i64 (wE bs.length p n)) ∧ RCur w' B a bs.length cap (np (wE bs.length p n) p n) ∧ w.grownBy w' (some B) := by
  have HC : Hid _ := rcurWindow_total B a cap p n bs w h hb h3 hp
  obtain ⟨er, her⟩ : ∃ er : Int, er = wE bs.length p n := ⟨_, rfl⟩
  rw [← her] at HC ⊢
  clear her
  go_enter Try.func49, Try.ntmps49
  go_wp2_with fail
  refine Calls.mono HC.out ?_
  rintro e w1 ⟨v, rfl, _, hc1, hg1⟩
  go_wp2
  go_ret
  exact ⟨rfl, hc1, hg1⟩
end Go.Proofs.Ytcgfdhmegagjdaa
