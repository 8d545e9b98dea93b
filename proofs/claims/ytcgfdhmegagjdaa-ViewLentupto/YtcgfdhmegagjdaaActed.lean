/-
  The statements' acted: one call of a builder and of the document's: Put, Patch, Len, Done.
-/
import Derived.Test.YtcgfdhmegagjdaaCuts
namespace Go.Proofs.Ytcgfdhmegagjdaa
open Go.RowKit

/-- the blocks of a builder and of its twin -/
def PSet (B R : Nat) (v rv : Value) (k : Nat) : Prop := BS B v k ∨ BS R rv k
/-- a builder and its twin that hold the same -/
structure Pair (w : World) (B R : Nat) (v rv : Value) (mx : Nat) (l : List Nat) : Prop where
  bld : Bld w B v mx l
  ref : RBl w R rv mx l
  hl : l.length ≤ mx
  hmx : mx ≤ 65535
  h256 : ∀ x ∈ l, x < 256
  dis : ∀ x, BS B v x → ¬ BS R rv x
theorem Pair.lt {w : World} {B R : Nat} {v rv : Value} {mx : Nat} {l : List Nat} (h : Pair w B R v rv mx l) : ∀ x, PSet B R v rv x → x < w.heap.size := by
  rintro x ((e | e) | (e | e))
  · rw [e]; exact h.bld.lt
  · exact (h.bld.own.lt x e).2
  · rw [e]; exact h.ref.lt
  · exact (h.ref.own.lt x e).2
theorem Pair.ch {S : Nat → Prop} {w w' : World} {B R : Nat} {v rv : Value} {mx : Nat} {l : List Nat} (h : Pair w B R v rv mx l) (k : Ch S w w') (hS : ∀ x, PSet B R v rv x → ¬ S x) : Pair w' B R v rv mx l :=
  ⟨h.bld.ch k (fun x hx => hS x (.inl hx)), h.ref.ch k (fun x hx => hS x (.inr hx)), h.hl, h.hmx, h.h256, h.dis⟩
theorem Pair.below {w w' : World} {B R : Nat} {v rv : Value} {mx : Nat} {l : List Nat} (h : Pair w B R v rv mx l) (k : Below w.heap.size w w') : Pair w' B R v rv mx l :=
  h.ch (Ch.ofBelow (S := none_) k) (fun _ _ => id)
/-- the pair behind a call -/
def AfterP (w : World) (B R : Nat) (v rv : Value) (mx : Nat) (w' : World) : Prop :=
  ∃ v' rv' l', Pair w' B R v' rv' mx l' ∧ (∀ q, PSet B R v' rv' q → PSet B R v rv q ∨ w.heap.size ≤ q) ∧ Ch (PSet B R v rv) w w'
theorem AfterP.same {w w' : World} {B R : Nat} {v rv : Value} {mx : Nat} {l : List Nat} (h : Pair w B R v rv mx l) (k : Below w.heap.size w w') : AfterP w B R v rv mx w' := ⟨v, rv, l, h.below k, fun _ hq => .inl hq, Ch.ofBelow k⟩
theorem AfterP.pre {w w0 w' : World} {B R : Nat} {v rv : Value} {mx : Nat} (k : Below w.heap.size w w0) (h : AfterP w0 B R v rv mx w') : AfterP w B R v rv mx w' := by
  obtain ⟨v', rv', l', hp, hq, hc⟩ := h
  refine ⟨v', rv', l', hp, fun q h => ?_, (Ch.ofBelow k).trans hc (fun _ _ s => s)⟩
  rcases hq q h with h | h
  · exact .inl h
  · exact .inr (Nat.le_trans k.size h)
theorem Pair.two {w w1 w2 : World} {B R : Nat} {v rv : Value} {mx : Nat} {l l' : List Nat} (h : Pair w B R v rv mx l) (hl : l'.length ≤ mx) (h256 : ∀ x ∈ l', x < 256) (h1 : After Bld w B v mx l' w1) (h2 : After RBl w1 R rv mx l' w2) : AfterP w B R v rv mx w2 := by
  obtain ⟨v', hb, hq, hc⟩ := h1
  obtain ⟨rv', hr, hq', hc'⟩ := h2
  have hlt : ∀ x, BS R rv x → x < w.heap.size := fun x hx => h.lt x (.inr hx)
  have hd : ∀ x, BS B v' x → ¬ BS R rv x := by
    rintro x (e | e) s
    · exact h.dis x (.inl e) s
    · rcases hq x e with e | e
      · exact h.dis x (.inr e) s
      · have := hlt x s; omega
  have hlt' : ∀ x, BS B v' x → x < w1.heap.size := by
    rintro x (e | e)
    · rw [e]; exact hb.lt
    · exact (hb.own.lt x e).2
  refine ⟨v', rv', l', ⟨hb.ch hc' hd, hr, hl, h.hmx, h256, ?_⟩, ?_, ?_⟩
  · rintro x s (e | e)
    · exact hd x s (.inl e)
    · rcases hq' x e with e | e
      · exact hd x s (.inr e)
      · have := hlt' x s; omega
  · rintro q ((e | e) | (e | e))
    · exact .inl (.inl (.inl e))
    · rcases hq q e with e | e
      · exact .inl (.inl (.inr e))
      · exact .inr e
    · exact .inl (.inr (.inl e))
    · rcases hq' q e with e | e
      · exact .inl (.inr (.inr e))
      · exact .inr (Nat.le_trans hc.size e)
  · exact (hc.mono (fun x _ hx => .inl hx)).trans hc' (fun x _ hx => .inr hx)
theorem Pair.mid {w w1 : World} {B R : Nat} {v rv : Value} {mx : Nat} {l l' : List Nat} (h : Pair w B R v rv mx l) (h1 : After Bld w B v mx l' w1) : RBl w1 R rv mx l := by
  obtain ⟨v', hb, hq, hc⟩ := h1
  exact h.ref.ch hc (fun x hx s => h.dis x s hx)

/-- one call, as the statement makes it -/
def ActsAs (w : World) (B R : Nat) (v rv : Value) (mx : Nat) (kd obj at' n : Int) (x : Nat) (pa : Option Addr) (np cap : Nat) : Prop :=
  Calls Try.prog 20 #[.pointer (some ⟨B, 0, none⟩), .pointer (some ⟨R, 0, none⟩), .agg #[.int .i64 kd, .int .i64 obj, .int .i64 at', .int .i64 n, .int .u64 (x : Int), .slice pa np cap]] w fun e w' => e = .returned (.bool true) ∧ AfterP w B R v rv mx w'

theorem box_cells (w : World) (kd obj at' n x : Int) (u : Value) (t : TypeId) :
    (w.alloc (.cells #[.int .i64 kd, .int .i64 obj, .int .i64 at', .int .i64 n, .int .u64 x, u] t)).cell? ⟨w.heap.size, 0, none⟩ = some (.int .i64 kd) ∧ (w.alloc (.cells #[.int .i64 kd, .int .i64 obj, .int .i64 at', .int .i64 n, .int .u64 x, u] t)).cell? ⟨w.heap.size, 2, none⟩ = some (.int .i64 at') ∧ (w.alloc (.cells #[.int .i64 kd, .int .i64 obj, .int .i64 at', .int .i64 n, .int .u64 x, u] t)).cell? ⟨w.heap.size, 3, none⟩ = some (.int .i64 n) ∧
    (w.alloc (.cells #[.int .i64 kd, .int .i64 obj, .int .i64 at', .int .i64 n, .int .u64 x, u] t)).cell? ⟨w.heap.size, 4, none⟩ = some (.int .u64 x) ∧ (w.alloc (.cells #[.int .i64 kd, .int .i64 obj, .int .i64 at', .int .i64 n, .int .u64 x, u] t)).cell? ⟨w.heap.size, 5, none⟩ = some u := by
  simp [go_sem]

set_option maxRecDepth 100000 in
set_option maxHeartbeats 800000 in
theorem acted_put (w : World) (B R : Nat) (v rv : Value) (mx : Nat) (l : List Nat) (obj at' n : Int) (x : Nat) (pa : Option Addr) (np cap : Nat) (h : Pair w B R v rv mx l) (hx : x < 18446744073709551616) : ActsAs w B R v rv mx 1 obj at' n x pa np cap := by
  unfold ActsAs
  have HX : Hid (x < 18446744073709551616) := hx
  clear hx
  go_enter Try.func20, Try.ntmps20
  go_wp2_with fail
  obtain ⟨w0, hw0⟩ : ∃ w0, w0 = w.alloc (.cells #[.int .i64 1, .int .i64 obj, .int .i64 at', .int .i64 n, .int .u64 (x : Int), .slice pa np cap] 49) := ⟨_, rfl⟩
  have hbx : Below w.heap.size w w0 := by rw [hw0]; exact (Below.refl _ _).alloc (Nat.le_refl _) _
  obtain ⟨k0, k2, k3, k4, k5⟩ : w0.cell? ⟨w.heap.size, 0, none⟩ = some (.int .i64 1) ∧ w0.cell? ⟨w.heap.size, 2, none⟩ = some (.int .i64 at') ∧ w0.cell? ⟨w.heap.size, 3, none⟩ = some (.int .i64 n) ∧ w0.cell? ⟨w.heap.size, 4, none⟩ = some (.int .u64 (x : Int)) ∧ w0.cell? ⟨w.heap.size, 5, none⟩ = some (.slice pa np cap) := by rw [hw0]; exact box_cells w 1 obj at' n x _ _
  have hlt0 := h.lt
  have hs0 : w.heap.size < w0.heap.size := by rw [hw0]; simp
  rw [← hw0]
  have hP := h.below hbx
  clear hw0
  refine (putB_total B v mx l n x w0 hP.bld hP.hl hP.hmx).mono ?_
  rintro e w1 ⟨rfl, hA⟩
  have hR := hP.mid hA
  have hout : ¬ BS B v w.heap.size := fun s => by have := hlt0 _ (.inl s); omega
  have q3 : w1.cell? ⟨w.heap.size, 3, none⟩ = some (.int .i64 n) := by obtain ⟨_, _, _, hc⟩ := hA; exact hc.cell k3 hout
  have q4 : w1.cell? ⟨w.heap.size, 4, none⟩ = some (.int .u64 (x : Int)) := by obtain ⟨_, _, _, hc⟩ := hA; exact hc.cell k4 hout
  have HC : Hid _ := putR_total R rv mx l n x w1 hR hP.hl hP.hmx HX.out
  obtain ⟨er, her⟩ : ∃ er, er = pE n x l.length mx := ⟨_, rfl⟩
  rw [← her] at HC ⊢
  clear her
  go_wp2_with fail
  refine Calls.mono HC.out ?_
  rintro e w2 ⟨rfl, hA2⟩
  have hfin := (hP.two (pL_len n x l mx hP.hl) (pL_256 n x l mx hP.h256) hA hA2).pre hbx
  clear q3 q4 HC hR hA hA2
  go_wp2_with (first | (go_at_call 9; refine (num_any _ _).mono ?_; rintro e w' ⟨rfl, rfl⟩))
  go_ret
  exact ⟨by simp, hfin⟩

set_option maxRecDepth 100000 in
set_option maxHeartbeats 800000 in
theorem acted_patch (w : World) (B R : Nat) (v rv : Value) (mx : Nat) (l : List Nat) (obj at' n : Int) (x : Nat) (pa : Option Addr) (np cap : Nat) (h : Pair w B R v rv mx l) (hx : x < 18446744073709551616) (ha : at' ≤ 9223372036854775807) : ActsAs w B R v rv mx 3 obj at' n x pa np cap := by
  unfold ActsAs
  have HX : Hid (x < 18446744073709551616) := hx
  clear hx
  go_enter Try.func20, Try.ntmps20
  go_wp2_with fail
  obtain ⟨w0, hw0⟩ : ∃ w0, w0 = w.alloc (.cells #[.int .i64 3, .int .i64 obj, .int .i64 at', .int .i64 n, .int .u64 (x : Int), .slice pa np cap] 49) := ⟨_, rfl⟩
  have hbx : Below w.heap.size w w0 := by rw [hw0]; exact (Below.refl _ _).alloc (Nat.le_refl _) _
  obtain ⟨k0, k2, k3, k4, k5⟩ : w0.cell? ⟨w.heap.size, 0, none⟩ = some (.int .i64 3) ∧ w0.cell? ⟨w.heap.size, 2, none⟩ = some (.int .i64 at') ∧ w0.cell? ⟨w.heap.size, 3, none⟩ = some (.int .i64 n) ∧ w0.cell? ⟨w.heap.size, 4, none⟩ = some (.int .u64 (x : Int)) ∧ w0.cell? ⟨w.heap.size, 5, none⟩ = some (.slice pa np cap) := by rw [hw0]; exact box_cells w 3 obj at' n x _ _
  have hlt0 := h.lt
  have hs0 : w.heap.size < w0.heap.size := by rw [hw0]; simp
  rw [← hw0]
  have hP := h.below hbx
  clear hw0
  refine (patchB_total B v mx l at' n x w0 hP.bld ha).mono ?_
  rintro e w1 ⟨rfl, hA⟩
  have hR := hP.mid hA
  have hout : ¬ BS B v w.heap.size := fun s => by have := hlt0 _ (.inl s); omega
  have q2 : w1.cell? ⟨w.heap.size, 2, none⟩ = some (.int .i64 at') := by obtain ⟨_, _, _, hc⟩ := hA; exact hc.cell k2 hout
  have q3 : w1.cell? ⟨w.heap.size, 3, none⟩ = some (.int .i64 n) := by obtain ⟨_, _, _, hc⟩ := hA; exact hc.cell k3 hout
  have q4 : w1.cell? ⟨w.heap.size, 4, none⟩ = some (.int .u64 (x : Int)) := by obtain ⟨_, _, _, hc⟩ := hA; exact hc.cell k4 hout
  have HC : Hid _ := patchR_total R rv mx l at' n x w1 hR (Nat.le_trans hP.hl hP.hmx) ha HX.out
  obtain ⟨er, her⟩ : ∃ er, er = tE at' n x l.length := ⟨_, rfl⟩
  rw [← her] at HC ⊢
  clear her
  go_wp2_with fail
  refine Calls.mono HC.out ?_
  rintro e w2 ⟨rfl, hA2⟩
  have hfin := (hP.two (by rw [tL_len]; exact hP.hl) (tL_256 at' n x l hP.h256) hA hA2).pre hbx
  clear q2 q3 q4 HC hR hA hA2
  go_wp2_with (first | (go_at_call 9; refine (num_any _ _).mono ?_; rintro e w' ⟨rfl, rfl⟩))
  go_ret
  exact ⟨by simp, hfin⟩

set_option maxRecDepth 100000 in
set_option maxHeartbeats 800000 in
theorem acted_len (w : World) (B R : Nat) (v rv : Value) (mx : Nat) (l : List Nat) (obj at' n : Int) (x : Nat) (pa : Option Addr) (np cap : Nat) (h : Pair w B R v rv mx l) : ActsAs w B R v rv mx 4 obj at' n x pa np cap := by
  unfold ActsAs
  go_enter Try.func20, Try.ntmps20
  go_wp2_with fail
  obtain ⟨w0, hw0⟩ : ∃ w0, w0 = w.alloc (.cells #[.int .i64 4, .int .i64 obj, .int .i64 at', .int .i64 n, .int .u64 (x : Int), .slice pa np cap] 49) := ⟨_, rfl⟩
  have hbx : Below w.heap.size w w0 := by rw [hw0]; exact (Below.refl _ _).alloc (Nat.le_refl _) _
  rw [← hw0]
  have hP := h.below hbx
  clear hw0
  refine (lenB_any B v mx l w0 hP.bld).mono ?_
  rintro e w1 ⟨rfl, rfl⟩
  have c1 := hP.ref.c1
  obtain ⟨a, c, hv⟩ := owns_shape hP.ref.own
  rw [hv] at c1
  have HV : Hid _ := hv
  clear hv
  go_wp2
  go_ret
  exact ⟨by simp, .same h hbx⟩

set_option maxRecDepth 100000 in
set_option maxHeartbeats 800000 in
theorem acted_other (w : World) (B R : Nat) (v rv : Value) (mx : Nat) (l : List Nat) (kd obj at' n : Int) (x : Nat) (pa : Option Addr) (np cap : Nat) (h : Pair w B R v rv mx l)
    (h1 : (kd == 1) = false) (h2 : (kd == 2) = false) (h3 : (kd == 3) = false) (h4 : (kd == 4) = false) (h5 : (kd == 5) = false) : ActsAs w B R v rv mx kd obj at' n x pa np cap := by
  unfold ActsAs
  have hB : ∀ X, Below w.heap.size w (w.alloc X) := fun X => (Below.refl _ _).alloc (Nat.le_refl _) X
  go_enter Try.func20, Try.ntmps20
  go_wp2
  go_ret
  exact ⟨rfl, .same h (hB _)⟩
end Go.Proofs.Ytcgfdhmegagjdaa
