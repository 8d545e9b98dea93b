/-
  The builder's calls: Put.
-/
import Derived.Test.YtcgfdhmegagjdaaBuilder3
namespace Go.Proofs.Ytcgfdhmegagjdaa
open Go.RowKit

set_option maxRecDepth 100000 in
set_option maxHeartbeats 800000 in
theorem putB_arg (B : Nat) (n : Int) (x : Int) (w : World) (h : n < 1 ∨ 8 < n) :
    Calls Try.prog 10 #[.pointer (some ⟨B, 0, none⟩), .int .i64 n, .int .u64 x] w fun e w' => e = .returned (.int .i64 1) ∧ Below w.heap.size w w' := by
  have HH : Hid (n < 1 ∨ 8 < n) := h
  clear h
  go_enter Try.func10, Try.ntmps10
  go_wp2_with fail
  refine (fits_arg n x _ HH.out).mono ?_
  rintro e w1 ⟨rfl, rfl⟩
  go_wp2
  go_ret
  exact ⟨rfl, Below.refl _ _⟩
set_option maxRecDepth 100000 in
set_option maxHeartbeats 800000 in
theorem putB_val (B : Nat) (n x : Nat) (w : World) (h1 : 1 ≤ n) (h8 : n ≤ 8) (hx : 256 ^ n ≤ x) :
    Calls Try.prog 10 #[.pointer (some ⟨B, 0, none⟩), .int .i64 n, .int .u64 x] w fun e w' => e = .returned (.int .i64 12) ∧ Below w.heap.size w w' := by
  have HH : Hid (256 ^ n ≤ x) := hx
  clear hx
  go_enter Try.func10, Try.ntmps10
  go_wp2_with fail
  refine (fits_val n x _ h1 h8 HH.out).mono ?_
  rintro e w1 ⟨rfl, rfl⟩
  go_wp2
  go_ret
  exact ⟨rfl, Below.refl _ _⟩
theorem Try.len8 : Try.prog.arrayLen 79 = 8 := by kernel_rfl
theorem Try.und8 : Try.prog.underlying 79 = some (.array (Try.prog.arrayLen 79) (Try.prog.elem 79)) := by kernel_rfl
theorem Try.size8 (W : World) : (sizeOf (Try.prog.elem 79)).run Try.prog W = .ok 1 W := by
  have e : Try.prog.elem 79 = 5 := by kernel_rfl
  obtain ⟨i0, hi, hz0, hz1, hz2⟩ := info_parts Try.infoByte
  rw [e]
  simp [sizeOf, typeInfo, hi, hz1]
theorem slice8 (W : World) (B : Nat) (n : Nat) (h : n ≤ 8) : (Instr.sliceAt 79 (.pointer (some ⟨B, 0, none⟩)) none (some (.int .i64 n)) none).run Try.prog W = .ok (.slice (some ⟨B, 0, none⟩) n 8) W := by
  rw [run_sliceAt_array_h W _ _ Try.und8 .i64 n (by omega) (by rw [Try.len8]; omega), Try.size8, Try.len8]
  simp [slicedAt, Result.andThen, Addr.add]

theorem parts_one (w : World) (S : Nat → Prop) (N n : Nat) (l : List Nat) (hl : l.length = n) (hseg : Seg .u8 w (some ⟨N, 0, none⟩) (toI l)) (hN : ¬ S N) (hM : ¬ S w.heap.size) :
    PartsAt (w.alloc (.cells #[.slice (some ⟨N, 0, none⟩) n 8] 22)) S (some ⟨w.heap.size, 0, none⟩) [⟨some ⟨N, 0, none⟩, 8, l⟩] := by
  refine .inr ⟨_, _, rfl, hM, by simp, fun i p hp => ?_⟩
  cases i with
  | zero =>
    simp at hp
    subst hp
    refine ⟨by simp [go_sem, hl], hseg.old ((Below.refl _ _).alloc (Nat.le_refl _) _), ?_⟩
    intro y _ hy
    simp at hy
    subst hy
    exact hN
  | succ i => simp at hp
theorem bs_out {w : World} {B : Nat} {v : Value} {mx : Nat} {l : List Nat} (h : Bld w B v mx l) (k : Nat) (hk : w.heap.size ≤ k) : ¬ BS B v k := by
  rintro (e | e)
  · have := h.lt; omega
  · have := (h.own.lt k e).2; omega
theorem eight_cells (w : World) (X : Array Value) (t : TypeId) (hX : X.size = 8) (n i : Nat) (hn : n ≤ 8) (hi : i < n) : ∃ x, (w.alloc (.cells X t)).cell? ⟨w.heap.size, 0 + i, none⟩ = some x := by
  refine ⟨X[i], ?_⟩
  rw [Nat.zero_add, World.cell?_alloc_at _ _ _ _ rfl]
  simp [show i < X.size by omega]

set_option maxRecDepth 100000 in
set_option maxHeartbeats 800000 in
/-- what Put does with the builder, whatever Bytes answers -/
theorem putB_go (B : Nat) (v : Value) (mx : Nat) (l : List Nat) (n x : Nat) (w : World) (er : Int) (Q : World → Prop) (h : Bld w B v mx l) (h1 : 1 ≤ n) (h8 : n ≤ 8) (hx : x < 256 ^ n)
    (hbb : ∀ W pa, Below w.heap.size w W → PartsAt W (BS B v) pa [⟨some ⟨w.heap.size, 0, none⟩, 8, byN n x⟩] → Calls Try.prog 11 #[.pointer (some ⟨B, 0, none⟩), .slice pa 1 1] W fun e w' => e = .returned (.int .i64 er) ∧ Q w') :
    Calls Try.prog 10 #[.pointer (some ⟨B, 0, none⟩), .int .i64 n, .int .u64 x] w fun e w' => e = .returned (.int .i64 er) ∧ Q w' := by
  have HH : Hid (x < 256 ^ n) := hx
  have HBB : Hid (∀ W pa, Below w.heap.size w W → PartsAt W (BS B v) pa [⟨some ⟨w.heap.size, 0, none⟩, 8, byN n x⟩] → Calls Try.prog 11 #[.pointer (some ⟨B, 0, none⟩), .slice pa 1 1] W fun e w' => e = .returned (.int .i64 er) ∧ Q w') := hbb
  have hsl : ∀ W, (Instr.sliceAt 79 (.pointer (some ⟨w.heap.size, 0, none⟩)) none (some (.int .i64 n)) none).run Try.prog W = .ok (.slice (some ⟨w.heap.size, 0, none⟩) n 8) W := fun W => slice8 W w.heap.size n h8
  clear hx hbb
  go_enter Try.func10, Try.ntmps10
  go_wp2_with fail
  refine (fits_ok n x _ h1 h8 HH.out).mono ?_
  rintro e w1 ⟨rfl, rfl⟩
  go_wp2_with fail
  obtain ⟨wN, hwN⟩ : ∃ wN, wN = w.alloc (.cells #[.int .u8 0, .int .u8 0, .int .u8 0, .int .u8 0, .int .u8 0, .int .u8 0, .int .u8 0, .int .u8 0] 79) := ⟨_, rfl⟩
  have hcel : ∀ i, i < n → ∃ x, wN.cell? ⟨w.heap.size, 0 + i, none⟩ = some x := by rw [hwN]; exact fun i hi => eight_cells w _ _ rfl n i h8 hi
  have hfz : ∀ i, wN.frozen? ⟨w.heap.size, i, none⟩ = false := by intro i; rw [hwN]; simp [go_sem]
  have hbN : Below w.heap.size w wN := by rw [hwN]; exact (Below.refl _ _).alloc (Nat.le_refl _) _
  rw [← hwN]
  clear hwN
  refine (write_any w.heap.size 0 n 8 x wN hcel hfz h8).mono ?_
  rintro e w2 ⟨rfl, hw2⟩
  have hsg : Seg .u8 w2 (some ⟨w.heap.size, 0, none⟩) (toI (byN n x)) := by rw [hw2]; exact wrt_seg wN w.heap.size 0 n x hcel
  have hch2 : Ch (fun k => k = w.heap.size) wN w2 := by rw [hw2]; exact wrt_ch _ _ _ _ _ _
  have hb2 : Below w.heap.size w w2 := hbN.trans (hch2.below (fun y hy => by rw [hy]; exact Nat.le_refl _) hbN.size)
  clear hw2 hch2 hcel hfz
  go_wp2_with fail
  refine Calls.mono (HBB.out _ _ (hb2.alloc hb2.size _) (parts_one w2 (BS B v) w.heap.size n (byN n x) (byN_len n x) hsg (bs_out h _ (Nat.le_refl _)) (bs_out h _ hb2.size))) ?_
  rintro e w3 ⟨rfl, hq⟩
  go_wp2
  go_ret
  exact ⟨rfl, hq⟩

set_option maxRecDepth 100000 in
set_option maxHeartbeats 800000 in
theorem putB_ok (B : Nat) (v : Value) (mx : Nat) (l : List Nat) (n x : Nat) (w : World) (h : Bld w B v mx l) (h1 : 1 ≤ n) (h8 : n ≤ 8) (hx : x < 256 ^ n) (hfit : l.length + n ≤ mx) (hmx : mx ≤ 65535) :
    Calls Try.prog 10 #[.pointer (some ⟨B, 0, none⟩), .int .i64 n, .int .u64 x] w fun e w' => e = .returned (.int .i64 0) ∧ ∃ v', Bld w' B v' mx (l ++ byN n x) ∧ (∀ q, v'.ownBlock = some q → v.ownBlock = some q ∨ w.heap.size ≤ q) ∧ Ch (BS B v) w w' := by
  refine (putB_go B v mx l n x w 0 (fun w' => ∃ v', Bld w' B v' mx (l ++ byN n x) ∧ (∀ q, v'.ownBlock = some q → v.ownBlock = some q ∨ w.heap.size ≤ q) ∧ Ch (BS B v) w w') h h1 h8 hx ?_).mono (fun e w' hh => hh)
  intro W pa hW hpa
  refine (bytesB_ok B v mx l pa 1 [⟨some ⟨w.heap.size, 0, none⟩, 8, byN n x⟩] W (h.below hW) hpa (by simp [flat, byN_len]; exact hfit) hmx (by simp)).mono ?_
  rintro e w' ⟨rfl, v', hb, hq, hch⟩
  refine ⟨rfl, v', by simpa [flat] using hb, fun q hh => ?_, (Ch.ofBelow (S := BS B v) hW).trans hch (fun _ _ s => s)⟩
  rcases hq q hh with h' | h'
  · exact .inl h'
  · have := hW.size; exact .inr (by omega)
theorem putB_no (B : Nat) (v : Value) (mx : Nat) (l : List Nat) (n x : Nat) (w : World) (h : Bld w B v mx l) (h1 : 1 ≤ n) (h8 : n ≤ 8) (hx : x < 256 ^ n) (hl : l.length ≤ mx) (hfit : mx < l.length + n) (hmx : mx ≤ 65535) :
    Calls Try.prog 10 #[.pointer (some ⟨B, 0, none⟩), .int .i64 n, .int .u64 x] w fun e w' => e = .returned (.int .i64 13) ∧ Below w.heap.size w w' := by
  refine (putB_go B v mx l n x w 13 (fun w' => Below w.heap.size w w') h h1 h8 hx ?_).mono (fun e w' hh => hh)
  intro W pa hW hpa
  refine (bytesB_no B v mx l pa 1 [⟨some ⟨w.heap.size, 0, none⟩, 8, byN n x⟩] W (h.below hW) hpa (by simp [flat, byN_len]; exact hfit) hmx hl (by simp) (by intro p hp; simp at hp; subst hp; simp [byN_len]; omega)).mono ?_
  rintro e w' ⟨rfl, hb⟩
  exact ⟨rfl, hW.trans (hb.mono hW.size)⟩
end Go.Proofs.Ytcgfdhmegagjdaa
