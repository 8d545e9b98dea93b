/-
  The cursor's At, Uint, Window, Left: what later layers use (Cursor, Cursor2).
-/
import Derived.Test.YtfoeepbndfnifaaDoorPOwn
import Derived.Test.YtfoeepbndfnifaaDoorWindow
import Derived.Deep.RegionWith
namespace Go.Proofs.YtfoeepbndfnifaaDoor
open Go.RowKit


/-- Uint's error and value -/
def uE (len : Nat) (at' n : Int) : Int := if n < 1 ∨ 8 < n then 1 else if at' < 0 ∨ (len : Int) < at' + n then 10 else 0
def uV (bs : List Nat) (at' n : Int) : Int := if uE bs.length at' n = 0 then ((M.numB ((bs.drop at'.toNat).take n.toNat) : Nat) : Int) else 0
theorem uE_zero (len : Nat) (at' n : Int) : uE len at' n = 0 ↔ (1 ≤ n ∧ n ≤ 8 ∧ 0 ≤ at' ∧ at' + n ≤ len) := by
  unfold uE
  split
  · constructor
    · intro h; omega
    · intro h; omega
  · split
    · constructor
      · intro h; omega
      · intro h; omega
    · constructor
      · intro h; omega
      · intro h; rfl
theorem uint_total (ad : Option Addr) (len cap : Nat) (at' n : Int) (bs : List Nat) (w : World) (hl : bs.length = len) (hb : Seg .u8 w ad (toI bs)) (h256 : ∀ x ∈ bs, x < 256) (h2 : len ≤ cap) (h3 : cap ≤ 9223372036854775807) (ha : at' ≤ 9223372036854775807) :
    Calls Tryd.prog 77 #[.slice ad len cap, .int .i64 at', .int .i64 n] w fun e w' => e = .returned (.tuple #[.int .u64 (uV bs at' n), .int .i64 (uE len at' n)]) ∧ Below w.heap.size w w' := by
  subst hl
  by_cases h1 : n < 1 ∨ 8 < n
  · have e1 : uE bs.length at' n = 1 := by simp [uE, h1]
    have e2 : uV bs at' n = 0 := by simp [uV, e1]
    rw [e1, e2]
    exact uint_arg ad bs.length cap at' n w h1
  · by_cases ho : at' < 0 ∨ (bs.length : Int) < at' + n
    · have e1 : uE bs.length at' n = 10 := by simp [uE, h1, ho]
      have e2 : uV bs at' n = 0 := by simp [uV, e1]
      rw [e1, e2]
      exact uint_out ad bs.length cap at' n w (by omega) (by omega) h2 h3 ha ho
    · have e1 : uE bs.length at' n = 0 := by simp [uE, h1, ho]
      rw [uV, e1]
      simp only [if_true]
      obtain ⟨k, rfl⟩ : ∃ k : Nat, at' = (k : Int) := ⟨at'.toNat, by omega⟩
      obtain ⟨m, rfl⟩ : ∃ m : Nat, n = (m : Int) := ⟨n.toNat, by omega⟩
      exact uint_ok ad cap k m bs w hb h256 (by omega) (by omega) (by omega) h2 h3

/-- Window's error and bytes -/
def wE (len : Nat) (at' n : Int) : Int := if n < 0 then 1 else if at' < 0 ∨ (len : Int) < at' + n then 10 else 0
theorem wE_zero (len : Nat) (at' n : Int) : wE len at' n = 0 ↔ (0 ≤ n ∧ 0 ≤ at' ∧ at' + n ≤ len) := by
  unfold wE
  split
  · constructor
    · intro h; omega
    · intro h; omega
  · split
    · constructor
      · intro h; omega
      · intro h; omega
    · constructor
      · intro h; omega
      · intro h; rfl


/-- the block B holds a cursor over the row at a (len bytes), at place p -/
structure Cur (w : World) (B : Nat) (a : Option Addr) (len p : Nat) : Prop where
  c0 : w.cell? ⟨B, 0, none⟩ = some (.slice a len len)
  c1 : w.cell? ⟨B, 1, none⟩ = some (.int .i64 p)
  fz : ∀ j, w.frozen? ⟨B, j, none⟩ = false
  lt : B < w.heap.size

set_option maxHeartbeats 400000 in
theorem at_any (a : Option Addr) (len cap : Nat) (w : World) (h2 : len ≤ cap) (h3 : cap ≤ 9223372036854775807) :
    Calls Tryd.prog 63 #[.slice a len cap] w fun e w' => e = .returned (.pointer (some ⟨w.heap.size, 0, none⟩)) ∧ w' = w.alloc (.cells #[.slice (cutA a 0 len) len len, .int .i64 0] 133) := by
  go_enter Tryd.func63, Tryd.ntmps63
  go_wp2_with fail
  refine (cut_ok a len cap 0 len _ (by omega) h2 h3).mono ?_
  rintro e w' ⟨rfl, rfl⟩
  go_wp2
  go_ret
  exact ⟨rfl, rfl⟩

theorem cur_new (w : World) (a : Option Addr) (len : Nat) (t : TypeId) : Cur (w.alloc (.cells #[.slice a len len, .int .i64 0] t)) w.heap.size a len 0 :=
  ⟨by simp [go_sem], by simp [go_sem], fun j => by simp [go_sem], by simp⟩
theorem Cur.grown {w w' : World} {B : Nat} {a : Option Addr} {len p : Nat} {r : Option Nat} (h : Cur w B a len p) (hg : w.grownBy w' r) (hr : some B ≠ r) : Cur w' B a len p :=
  ⟨hg.cell h.c0 (by simpa using hr), hg.cell h.c1 (by simpa using hr), fun j => by rw [World.frozen?_of_block (hg.block B h.lt hr)]; exact h.fz j, Nat.lt_of_lt_of_le h.lt hg.size⟩

theorem Cur.below {w w' : World} {B : Nat} {a : Option Addr} {len p : Nat} (h : Cur w B a len p) (hb : Below w.heap.size w w') : Cur w' B a len p :=
  ⟨(hb.cell h.lt).trans h.c0, (hb.cell h.lt).trans h.c1, fun j => by rw [World.frozen?_of_block (hb.block B h.lt)]; exact h.fz j, Nat.lt_of_lt_of_le h.lt hb.size⟩
theorem grown_below {w w' : World} (hb : Below w.heap.size w w') (r : Option Nat) : w.grownBy w' r := ⟨hb.os, hb.tape, hb.output, hb.size, fun k hk _ => hb.block k hk⟩
theorem un_drew {w w1 : World} (hb : Below w.drew.heap.size w.drew w1) : Below w.heap.size w w1 := ⟨hb.os, hb.tape, hb.output, hb.size, hb.block⟩
theorem cur_set {w w1 : World} {B : Nat} {a : Option Addr} {len p : Nat} (h : Cur w B a len p) (hb : Below w.heap.size w w1) (q : Nat) (x : Int) (hx : x = q) :
    Cur (w1.setCell ⟨B, 1, none⟩ (.int .i64 x)) B a len q ∧ w.grownBy (w1.setCell ⟨B, 1, none⟩ (.int .i64 x)) (some B) := by
  have h1 := h.below hb
  refine ⟨⟨?_, ?_, ?_, ?_⟩, ?_⟩
  · rw [World.cell?_setCell_other _ _ _ _ (by simp)]; exact h1.c0
  · rw [World.cell?_setCell_same _ _ _ h1.c1, hx]
  · intro j; rw [World.frozen?_setCell]; exact h1.fz j
  · simpa using h1.lt
  · refine ⟨hb.os, hb.tape, hb.output, by simpa using hb.size, fun k hk hr => ?_⟩
    rw [heap_setCell_other _ _ _ _ (fun e => hr (by rw [e]))]
    exact hb.block k hk

set_option maxRecDepth 100000 in
set_option maxHeartbeats 800000 in
theorem curWindow_ok (B : Nat) (a : Option Addr) (len p n : Nat) (w : World) (h : Cur w B a len p) (hin : p + n ≤ len) (h3 : len ≤ 9223372036854775807) :
    Calls Tryd.prog 80 #[.pointer (some ⟨B, 0, none⟩), .int .i64 n] w fun e w' => e = .returned (.tuple #[.slice (cutA a p n) n n, .int .i64 0]) ∧ Cur w' B a len (p + n) ∧ w.grownBy w' (some B) := by
  have h0 := h.c0
  have h1 := h.c1
  go_enter Tryd.func80, Tryd.ntmps80
  go_wp2_with fail
  go_region_with (go_at_call 33; refine (window_ok a len len p n _ hin (Nat.le_refl _) h3).mono ?_; rintro e w1 ⟨rfl, hb1⟩)
  all_goals
    have d1 : w1.cell? ⟨B, 1, none⟩ = some (.int .i64 p) := (hb1.cell h.lt).trans h1
    have f1 : w1.frozen? ⟨B, 1, none⟩ = false := by rw [World.frozen?_of_block (hb1.block B h.lt)]; exact h.fz 1
    go_wp2
    go_ret2
    exact ⟨rfl, cur_set h (un_drew hb1) (p + n) _ (by omega)⟩

set_option maxRecDepth 100000 in
set_option maxHeartbeats 800000 in
theorem curWindow_no (B : Nat) (a : Option Addr) (len p : Nat) (n er : Int) (w : World) (h : Cur w B a len p) (her : er = 1 ∨ er = 10)
    (hw : ∀ W, Calls Tryd.prog 33 #[.slice a len len, .int .i64 p, .int .i64 n] W fun e w' => e = .returned (.tuple #[.slice none 0 0, .int .i64 er]) ∧ Below W.heap.size W w') :
    Calls Tryd.prog 80 #[.pointer (some ⟨B, 0, none⟩), .int .i64 n] w fun e w' => e = .returned (.tuple #[.slice none 0 0, .int .i64 er]) ∧ Below w.heap.size w w' := by
  have h0 := h.c0
  have h1 := h.c1
  have HW : Hid (∀ W, Calls Tryd.prog 33 #[.slice a len len, .int .i64 p, .int .i64 n] W fun e w' => e = .returned (.tuple #[.slice none 0 0, .int .i64 er]) ∧ Below W.heap.size W w') := hw
  clear hw
  rcases her with rfl | rfl
  all_goals
    go_enter Tryd.func80, Tryd.ntmps80
    go_wp2_with fail
    go_region_with (go_at_call 33; refine (HW.out _).mono ?_; rintro e w1 ⟨rfl, hb1⟩)
    all_goals
      go_wp2
      go_ret2
      exact ⟨rfl, un_drew hb1⟩

/-- what the document says that a cursor's Window answers where the bytes are not there -/
theorem curWindow_bad (B : Nat) (a : Option Addr) (len p : Nat) (n : Int) (w : World) (h : Cur w B a len p) (hp : p ≤ len) (h3 : len ≤ 9223372036854775807) (hn : n ≤ 9223372036854775807) (hbad : n < 0 ∨ (len : Int) < p + n) :
    Calls Tryd.prog 80 #[.pointer (some ⟨B, 0, none⟩), .int .i64 n] w fun e w' => e = .returned (.tuple #[.slice none 0 0, .int .i64 (if n < 0 then 1 else 10)]) ∧ Below w.heap.size w w' := by
  by_cases h0 : n < 0
  · rw [if_pos h0]
    exact curWindow_no B a len p n 1 w h (.inl rfl) (fun W => window_arg a len len p n W h0)
  · rw [if_neg h0]
    exact curWindow_no B a len p n 10 w h (.inr rfl) (fun W => window_out a len len p n W (by omega) hn (Nat.le_refl _) h3 (by omega) (by omega))


/-- where a cursor stands behind a call -/
def np (er : Int) (p : Nat) (n : Int) : Nat := if er = 0 then p + n.toNat else p
theorem np_ok (p : Nat) (n : Int) : np 0 p n = p + n.toNat := rfl
theorem np_no (er : Int) (h : er ≠ 0) (p : Nat) (n : Int) : np er p n = p := if_neg h

set_option maxRecDepth 100000 in
set_option maxHeartbeats 800000 in
theorem curUint_go (B : Nat) (a : Option Addr) (len p : Nat) (n v er : Int) (w : World) (h : Cur w B a len p) (her : er = 1 ∨ er = 10 ∨ er = 0) (h3 : len ≤ 1048576) (hn : er = 0 → 0 ≤ n ∧ p + n ≤ len)
    (hw : ∀ W, Below w.heap.size w W → Calls Tryd.prog 77 #[.slice a len len, .int .i64 p, .int .i64 n] W fun e w' => e = .returned (.tuple #[.int .u64 v, .int .i64 er]) ∧ Below W.heap.size W w') :
    Calls Tryd.prog 65 #[.pointer (some ⟨B, 0, none⟩), .int .i64 n] w fun e w' => e = .returned (.tuple #[.int .u64 v, .int .i64 er]) ∧ Cur w' B a len (np er p n) ∧ w.grownBy w' (some B) := by
  have h0 := h.c0
  have h1 := h.c1
  have HW : Hid (∀ W, Below w.heap.size w W → Calls Tryd.prog 77 #[.slice a len len, .int .i64 p, .int .i64 n] W fun e w' => e = .returned (.tuple #[.int .u64 v, .int .i64 er]) ∧ Below W.heap.size W w') := hw
  clear hw
  rcases her with rfl | rfl | rfl
  · clear hn
    go_enter Tryd.func65, Tryd.ntmps65
    go_wp2_with fail
    go_region_with (go_at_call 77; refine (HW.out _ (Below.refl _ _).drew).mono ?_; rintro e w1 ⟨rfl, hb1⟩)
    all_goals
      go_wp2
      go_ret2
      exact ⟨rfl, h.below (un_drew hb1), grown_below (un_drew hb1) _⟩
  · clear hn
    go_enter Tryd.func65, Tryd.ntmps65
    go_wp2_with fail
    go_region_with (go_at_call 77; refine (HW.out _ (Below.refl _ _).drew).mono ?_; rintro e w1 ⟨rfl, hb1⟩)
    all_goals
      go_wp2
      go_ret2
      exact ⟨rfl, h.below (un_drew hb1), grown_below (un_drew hb1) _⟩
  · obtain ⟨hn0, hn1⟩ := hn rfl
    clear hn
    go_enter Tryd.func65, Tryd.ntmps65
    go_wp2_with fail
    go_region_with (go_at_call 77; refine (HW.out _ (Below.refl _ _).drew).mono ?_; rintro e w1 ⟨rfl, hb1⟩)
    all_goals
      have d1 : w1.cell? ⟨B, 1, none⟩ = some (.int .i64 p) := (hb1.cell h.lt).trans h1
      have f1 : w1.frozen? ⟨B, 1, none⟩ = false := by rw [World.frozen?_of_block (hb1.block B h.lt)]; exact h.fz 1
      go_wp2
      go_ret2
      exact ⟨rfl, cur_set h (un_drew hb1) (p + n.toNat) _ (by omega)⟩
theorem uE_cases (len : Nat) (at' n : Int) : uE len at' n = 1 ∨ uE len at' n = 10 ∨ uE len at' n = 0 := by
  unfold uE
  split
  · exact .inl rfl
  · split
    · exact .inr (.inl rfl)
    · exact .inr (.inr rfl)
theorem wE_cases (len : Nat) (at' n : Int) : wE len at' n = 1 ∨ wE len at' n = 10 ∨ wE len at' n = 0 := by
  unfold wE
  split
  · exact .inl rfl
  · split
    · exact .inr (.inl rfl)
    · exact .inr (.inr rfl)
theorem curUint_total (B : Nat) (a : Option Addr) (p : Nat) (n : Int) (bs : List Nat) (w : World) (h : Cur w B a bs.length p) (hb : Seg .u8 w a (toI bs)) (h256 : ∀ x ∈ bs, x < 256) (h3 : bs.length ≤ 1048576) (hp : p ≤ bs.length) :
    Calls Tryd.prog 65 #[.pointer (some ⟨B, 0, none⟩), .int .i64 n] w fun e w' => e = .returned (.tuple #[.int .u64 (uV bs p n), .int .i64 (uE bs.length p n)]) ∧ Cur w' B a bs.length (np (uE bs.length p n) p n) ∧ w.grownBy w' (some B) :=
  curUint_go B a bs.length p n _ _ w h (uE_cases _ _ _) h3 (fun e => by have := (uE_zero _ _ _).1 e; omega)
    (fun W hB => uint_total a bs.length bs.length p n bs W rfl (hb.old hB) h256 (Nat.le_refl _) (by omega) (by omega))

set_option maxHeartbeats 400000 in
theorem curLeft_any (B : Nat) (a : Option Addr) (len p : Nat) (w : World) (h : Cur w B a len p) (h3 : len ≤ 1048576) (hp : p ≤ len) :
    Calls Tryd.prog 64 #[.pointer (some ⟨B, 0, none⟩)] w fun e w' => e = .returned (.int .i64 ((len : Int) - p)) ∧ Below w.heap.size w w' := by
  have h0 := h.c0
  have h1 := h.c1
  go_enter Tryd.func64, Tryd.ntmps64
  go_wp2
  try go_region
  all_goals
    go_wp2
    go_ret
    exact ⟨rfl, (Below.refl _ _).drew⟩

end Go.Proofs.YtfoeepbndfnifaaDoor
