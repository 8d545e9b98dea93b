/-
  view.At and the cursor's calls: the cursor is a block of two cells.
-/
import Derived.Test.YtcgfdhmegagjdaaOwn
import Derived.Test.YtcgfdhmegagjdaaWindow
import Derived.Deep.RegionWith
namespace Go.Proofs.Ytcgfdhmegagjdaa
open Go.RowKit

/-- the block B holds a cursor over the row at a (len bytes), at place p -/
structure Cur (w : World) (B : Nat) (a : Option Addr) (len p : Nat) : Prop where
  c0 : w.cell? ⟨B, 0, none⟩ = some (.slice a len len)
  c1 : w.cell? ⟨B, 1, none⟩ = some (.int .i64 p)
  fz : ∀ j, w.frozen? ⟨B, j, none⟩ = false
  lt : B < w.heap.size

set_option maxHeartbeats 400000 in
theorem at_any (a : Option Addr) (len cap : Nat) (w : World) (h2 : len ≤ cap) (h3 : cap ≤ 9223372036854775807) :
    Calls Try.prog 21 #[.slice a len cap] w fun e w' => e = .returned (.pointer (some ⟨w.heap.size, 0, none⟩)) ∧ w' = w.alloc (.cells #[.slice (cutA a 0 len) len len, .int .i64 0] 94) := by
  go_enter Try.func21, Try.ntmps21
  go_wp2_with fail
  refine (cut_ok a len cap 0 len _ (by omega) h2 h3).mono ?_
  rintro e w' ⟨rfl, rfl⟩
  go_wp2
  go_ret
  exact ⟨rfl, rfl⟩

theorem cur_new (w : World) (a : Option Addr) (len : Nat) (t : TypeId) : Cur (w.alloc (.cells #[.slice a len len, .int .i64 0] t)) w.heap.size a len 0 :=
  ⟨by simp [go_sem], by simp [go_sem], fun j => by simp [go_sem], by simp⟩
theorem Cur.grown {w w' : World} {B : Nat} {a : Option Addr} {len p : Nat} {r : Option Nat} (h : Cur w B a len p) (hg : w.grownBy w' r) (hr : some B ≠ r) : Cur w' B a len p :=
  ⟨hg.cell h.c0 (by simpa using hr), hg.cell h.c1 (by simpa using hr), fun j => by rw [World.frozen?_of_block (hg.block B h.lt hr)]; exact h.fz j, Nat.lt_of_lt_of_le h.lt hg.size⟩

theorem Cur.below {w w' : World} {B : Nat} {a : Option Addr} {len p : Nat} (h : Cur w B a len p) (hb : Below w.heap.size w w') : Cur w' B a len p :=
  ⟨(hb.cell h.lt).trans h.c0, (hb.cell h.lt).trans h.c1, fun j => by rw [World.frozen?_of_block (hb.block B h.lt)]; exact h.fz j, Nat.lt_of_lt_of_le h.lt hb.size⟩
theorem grown_below {w w' : World} (hb : Below w.heap.size w w') (r : Option Nat) : w.grownBy w' r := ⟨hb.os, hb.tape, hb.output, hb.size, fun k hk _ => hb.block k hk⟩
theorem un_drew {w w1 : World} (hb : Below w.drew.heap.size w.drew w1) : Below w.heap.size w w1 := ⟨hb.os, hb.tape, hb.output, hb.size, hb.block⟩
theorem cur_set {w w1 : World} {B : Nat} {a : Option Addr} {len p : Nat} (h : Cur w B a len p) (hb : Below w.heap.size w w1) (q : Nat) (x : Int) (hx : x = q) :
    Cur (w1.setCell ⟨B, 1, none⟩ (.int .i64 x)) B a len q ∧ w.grownBy (w1.setCell ⟨B, 1, none⟩ (.int .i64 x)) (some B) := by
  have h1 := h.below hb
  refine ⟨⟨?_, ?_, ?_, ?_⟩, ?_⟩
  · rw [World.cell?_setCell_other _ _ _ _ (by simp)]; exact h1.c0
  · rw [World.cell?_setCell_same _ _ _ h1.c1, hx]
  · intro j; rw [World.frozen?_setCell]; exact h1.fz j
  · simpa using h1.lt
  · refine ⟨hb.os, hb.tape, hb.output, by simpa using hb.size, fun k hk hr => ?_⟩
    rw [heap_setCell_other _ _ _ _ (fun e => hr (by rw [e]))]
    exact hb.block k hk

set_option maxRecDepth 100000 in
set_option maxHeartbeats 800000 in
theorem curWindow_ok (B : Nat) (a : Option Addr) (len p n : Nat) (w : World) (h : Cur w B a len p) (hin : p + n ≤ len) (h3 : len ≤ 9223372036854775807) :
    Calls Try.prog 45 #[.pointer (some ⟨B, 0, none⟩), .int .i64 n] w fun e w' => e = .returned (.tuple #[.slice (cutA a p n) n n, .int .i64 0]) ∧ Cur w' B a len (p + n) ∧ w.grownBy w' (some B) := by
  have h0 := h.c0
  have h1 := h.c1
  go_enter Try.func45, Try.ntmps45
  go_wp2_with fail
  go_region_with (go_at_call 53; refine (window_ok a len len p n _ hin (Nat.le_refl _) h3).mono ?_; rintro e w1 ⟨rfl, hb1⟩)
  all_goals
    have d1 : w1.cell? ⟨B, 1, none⟩ = some (.int .i64 p) := (hb1.cell h.lt).trans h1
    have f1 : w1.frozen? ⟨B, 1, none⟩ = false := by rw [World.frozen?_of_block (hb1.block B h.lt)]; exact h.fz 1
    go_wp2
    go_ret2
    exact ⟨rfl, cur_set h (un_drew hb1) (p + n) _ (by omega)⟩

set_option maxRecDepth 100000 in
set_option maxHeartbeats 800000 in
theorem curWindow_no (B : Nat) (a : Option Addr) (len p : Nat) (n er : Int) (w : World) (h : Cur w B a len p) (her : er = 1 ∨ er = 10)
    (hw : ∀ W, Calls Try.prog 53 #[.slice a len len, .int .i64 p, .int .i64 n] W fun e w' => e = .returned (.tuple #[.slice none 0 0, .int .i64 er]) ∧ Below W.heap.size W w') :
    Calls Try.prog 45 #[.pointer (some ⟨B, 0, none⟩), .int .i64 n] w fun e w' => e = .returned (.tuple #[.slice none 0 0, .int .i64 er]) ∧ Below w.heap.size w w' := by
  have h0 := h.c0
  have h1 := h.c1
  have HW : Hid (∀ W, Calls Try.prog 53 #[.slice a len len, .int .i64 p, .int .i64 n] W fun e w' => e = .returned (.tuple #[.slice none 0 0, .int .i64 er]) ∧ Below W.heap.size W w') := hw
  clear hw
  rcases her with rfl | rfl
  all_goals
    go_enter Try.func45, Try.ntmps45
    go_wp2_with fail
    go_region_with (go_at_call 53; refine (HW.out _).mono ?_; rintro e w1 ⟨rfl, hb1⟩)
    all_goals
      go_wp2
      go_ret2
      exact ⟨rfl, un_drew hb1⟩

/-- what the document says that a cursor's Window answers where the bytes are not there -/
theorem curWindow_bad (B : Nat) (a : Option Addr) (len p : Nat) (n : Int) (w : World) (h : Cur w B a len p) (hp : p ≤ len) (h3 : len ≤ 9223372036854775807) (hn : n ≤ 9223372036854775807) (hbad : n < 0 ∨ (len : Int) < p + n) :
    Calls Try.prog 45 #[.pointer (some ⟨B, 0, none⟩), .int .i64 n] w fun e w' => e = .returned (.tuple #[.slice none 0 0, .int .i64 (if n < 0 then 1 else 10)]) ∧ Below w.heap.size w w' := by
  by_cases h0 : n < 0
  · rw [if_pos h0]
    exact curWindow_no B a len p n 1 w h (.inl rfl) (fun W => window_arg a len len p n W h0)
  · rw [if_neg h0]
    exact curWindow_no B a len p n 10 w h (.inr rfl) (fun W => window_out a len len p n W (by omega) hn (Nat.le_refl _) h3 (by omega) (by omega))

set_option maxHeartbeats 400000 in
theorem curSkip_ok (B : Nat) (a : Option Addr) (len p n : Nat) (w : World) (h : Cur w B a len p) (hin : p + n ≤ len) (h3 : len ≤ 9223372036854775807) :
    Calls Try.prog 22 #[.pointer (some ⟨B, 0, none⟩), .int .i64 n] w fun e w' => e = .returned (.int .i64 0) ∧ Cur w' B a len (p + n) ∧ w.grownBy w' (some B) := by
  go_enter Try.func22, Try.ntmps22
  go_wp2_with fail
  refine (curWindow_ok B a len p n w h hin h3).mono ?_
  rintro e w1 ⟨rfl, hc1, hg1⟩
  go_wp2
  go_ret
  exact ⟨rfl, hc1, hg1⟩
set_option maxHeartbeats 400000 in
theorem curSkip_bad (B : Nat) (a : Option Addr) (len p : Nat) (n : Int) (w : World) (h : Cur w B a len p) (hp : p ≤ len) (h3 : len ≤ 9223372036854775807) (hn : n ≤ 9223372036854775807) (hbad : n < 0 ∨ (len : Int) < p + n) :
    Calls Try.prog 22 #[.pointer (some ⟨B, 0, none⟩), .int .i64 n] w fun e w' => e = .returned (.int .i64 (if n < 0 then 1 else 10)) ∧ Below w.heap.size w w' := by
  have HB := curWindow_bad B a len p n w h hp h3 hn hbad
  obtain ⟨er, her⟩ : ∃ er : Int, er = if n < 0 then 1 else 10 := ⟨_, rfl⟩
  rw [← her] at HB ⊢
  have HC : Hid _ := HB
  clear her HB hbad
  go_enter Try.func22, Try.ntmps22
  go_wp2_with fail
  refine Calls.mono HC.out ?_
  rintro e w1 ⟨rfl, hb1⟩
  go_wp2
  go_ret
  exact ⟨rfl, hb1⟩
end Go.Proofs.Ytcgfdhmegagjdaa
