/-
  What Apart keeps while it writes and lengthens; full.
-/
import Derived.Test.YtfnmidaiabjpbabApart1
namespace Go.Proofs.Ytfnmidaiabjpbab.Ap
open Go.RowKit

theorem full_any (a : Option Addr) (n c x : Nat) (w : World) (hs : Seg .u8 w a (toI (rp n x))) (hn : n ≤ 9223372036854775807) :
    Calls Try.prog 37 #[.slice a n c, .int .u8 (x : Int)] w fun e w' => e = .returned (.bool true) ∧ w = w' := by
  go_enter Try.func37, Try.ntmps37
  go_wp2
  go_loop [5] (fun ix => ∃ k : Nat, k ≤ n ∧ ix = .int .i64 k) (fun ix => n - (intOf ix).toNat)
  case atStart => exact ⟨0, by omega, rfl⟩
  case round =>
    obtain ⟨k, hk, rfl⟩ := hrel
    by_cases hlt : k < n
    · obtain ⟨b, off, rfl, hc⟩ := seg_at hs k (by simp [rp]; exact hlt)
      have cc := hc k (by simp [rp]; exact hlt)
      rw [show (rp n x).getD k 0 = x by simp [rp, List.getD, hlt]] at cc
      clear hc hs
      go_wp2
      go_round
      case rel => exact ⟨k + 1, by omega, by go_num⟩
      case measure => simp [intOf]; omega
    · go_wp2
      go_ret
      exact ⟨rfl, rfl⟩

abbrev vv (A : Nat → Option Addr) (C M : Nat → Nat) (j : Nat) : Value := .slice (A j) (M j) (C j)
/-- what does not change: the lists lie apart, among the call's own, at the head of their blocks -/
structure Still (n lb B : Nat) (A : Nat → Option Addr) (C M : Nat → Nat) (w0 : World) : Prop where
  dis : ∀ i j, i < n → j < n → i ≠ j → (vv A C M i).ownBlock = none ∨ (vv A C M i).ownBlock ≠ (vv A C M j).ownBlock
  nlb : ∀ j, j < n → (vv A C M j).ownBlock ≠ some lb
  head : ∀ j, j < n → ∀ y, A j = some y → y = ⟨y.block, 0, none⟩
  base : ∀ j, j < n → ∀ q, (vv A C M j).ownBlock = some q → B ≤ q ∧ q < w0.heap.size
  lbs : lb < w0.heap.size
  size : B ≤ w0.heap.size
theorem own_head {w : World} {B n c : Nat} {a : Option Addr} {l : List Nat} (h : OwnB w B (.slice a n c) n l) : ∀ y, a = some y → y = ⟨y.block, 0, none⟩ := by
  intro y hy
  rcases h.2 with ⟨h1, _⟩ | ⟨g, cap, cur, h1, _⟩
  · simp only [Value.slice.injEq] at h1; rw [hy] at h1; simp at h1
  · simp only [Value.slice.injEq] at h1; rw [hy] at h1; simp only [Option.some.injEq] at h1; rw [h1.1]
/-- the first loop: each list holds F -/
structure L1 (n lb off B : Nat) (A : Nat → Option Addr) (C M : Nat → Nat) (F : Nat → List Nat) (w0 w : World) : Prop where
  row : ∀ j, j < n → w.cell? ⟨lb, off + j, none⟩ = some (vv A C M j)
  own : ∀ j, j < n → OwnB w B (vv A C M j) (M j) (F j)
  bel : Below B w0 w
theorem L1.step {n lb off B : Nat} {A : Nat → Option Addr} {C M : Nat → Nat} {F G : Nat → List Nat} {w0 w w' : World} (h : L1 n lb off B A C M F w0 w) (hs : Still n lb B A C M w0) {i : Nat} (hi : i < n)
    (ho : OwnB w' B (vv A C M i) (M i) (G i)) (hg : w.grownBy w' (vv A C M i).ownBlock) (hG : ∀ j, j ≠ i → G j = F j) : L1 n lb off B A C M G w0 w' := by
  refine ⟨fun j hj => hg.cell (h.row j hj) (fun e => hs.nlb i hi e.symm), fun j hj => ?_, h.bel.grown hg (Nat.le_trans hs.size h.bel.size) (fun k hk => (hs.base i hi k hk).1)⟩
  by_cases e : j = i
  · subst e; exact ho
  · rw [hG j e]; exact (h.own j hj).kept hg (hs.dis j i hj hi e)
/-- .. of those ahead of i, marked -/
def mkd (M : Nat → Nat) (L : Nat → List Nat) (i j : Nat) : List Nat := if j < i then rp (M j) (mark j) else L j

/-- the second loop: the lists from i on, the longer ones ahead of i -/
structure L2 (n lb off B : Nat) (A : Nat → Option Addr) (C M : Nat → Nat) (T i : Nat) (G : Nat → Value) (w0 w : World) : Prop where
  row : ∀ j, j < n → w.cell? ⟨lb, off + j, none⟩ = some (vv A C M j)
  own : ∀ j, i ≤ j → j < n → OwnB w B (vv A C M j) (M j) (rp (M j) (mark j))
  lon : ∀ j, j < i → OwnB w B (G j) (M j + T) (rp (M j + T) (mark j))
  rd : ∀ j, j < i → Rd w (A j) (M j) (mark j)
  sep : ∀ j k, j < i → i ≤ k → k < n → (G j).ownBlock = none ∨ (G j).ownBlock ≠ (vv A C M k).ownBlock
  bel : Below B w0 w
theorem L2.step {n lb off B : Nat} {A : Nat → Option Addr} {C M : Nat → Nat} {T i : Nat} {G : Nat → Value} {w0 w w' : World} (h : L2 n lb off B A C M T i G w0 w) (hs : Still n lb B A C M w0) (hi : i < n) (g : Value)
    (ho : OwnB w' B g (M i + T) (rp (M i + T) (mark i))) (hr : Rd w' (A i) (M i) (mark i)) (hg : w.grownBy w' (vv A C M i).ownBlock)
    (hp : g.ownBlock = (vv A C M i).ownBlock ∨ ∀ q, g.ownBlock = some q → w.heap.size ≤ q) : L2 n lb off B A C M T (i + 1) (fun j => if j = i then g else G j) w0 w' := by
  have hsz := h.bel.size
  refine ⟨fun j hj => hg.cell (h.row j hj) (fun e => hs.nlb i hi e.symm), fun j h1 hj => (h.own j (by omega) hj).kept hg (hs.dis j i hj hi (by omega)), fun j hj => ?_, fun j hj => ?_, fun j k hj h1 hk => ?_, h.bel.grown hg (Nat.le_trans hs.size hsz) (fun k hk => (hs.base i hi k hk).1)⟩
  · by_cases e : j = i
    · subst e; simpa using ho
    · simp only [e, if_false]; exact (h.lon j (by omega)).kept hg (h.sep j i (by omega) (Nat.le_refl _) hi)
  · by_cases e : j = i
    · subst e; exact hr
    · refine (h.rd j (by omega)).keep hg (fun q hq => ?_)
      rcases hs.dis j i (by omega) hi e with h1 | h1
      · simp [vv, hq, Value.ownBlock] at h1
      · simpa [vv, hq, Value.ownBlock] using h1
  · by_cases e : j = i
    · subst e
      simp only [if_true]
      rcases hp with hp | hp
      · rw [hp]; exact hs.dis j k hi hk (by omega)
      · cases hv : g.ownBlock with
        | none => exact .inl rfl
        | some q =>
          refine .inr (fun e => ?_)
          have h2 := hp q hv
          have h3 := (hs.base k hk q e.symm).2
          omega
    · simp only [e, if_false]; exact h.sep j k (by omega) (by omega) hk
/-- .. while the list of the longer ones is lengthened -/
theorem L2.long {n lb off B : Nat} {A : Nat → Option Addr} {C M : Nat → Nat} {T i m : Nat} {G : Nat → Value} {w0 w w' : World} {v : Value} {xs : List Value} (h : L2 n lb off B A C M T i G w0 w) (hs : Still n lb B A C M w0)
    (hv : w.ownsRow w0.heap.size 24 1 v m xs) (hg : w.grownBy w' v.ownBlock) : L2 n lb off B A C M T i G w0 w' := by
  have hsz := h.bel.size
  refine ⟨fun j hj => hg.cell (h.row j hj) (fun e => ?_), fun j h1 hj => (h.own j h1 hj).kept hg (apart (h.own j h1 hj) hv (by decide)), fun j hj => (h.lon j hj).kept hg (apart (h.lon j hj) hv (by decide)), fun j hj => ?_, h.sep, h.bel.grown hg (Nat.le_trans hs.size hsz) (fun k hk => Nat.le_trans hs.size (hv.lt k hk).1)⟩
  · have := (hv.lt lb e.symm).1
    have := hs.lbs
    omega
  · rcases h.rd j hj with h0 | ⟨g, ha, ⟨c, hc⟩, hcell⟩
    · exact .inl h0
    · refine Rd.keep (.inr ⟨g, ha, ⟨c, hc⟩, hcell⟩) hg (fun q hq e => ?_)
      rw [ha] at hq
      simp only [Option.some.injEq, Addr.mk.injEq, and_true] at hq
      subst hq
      obtain ⟨c', hc'⟩ := kind hv g e.symm
      rw [hc] at hc'
      simp at hc'
theorem L2.alloc {n lb off B : Nat} {A : Nat → Option Addr} {C M : Nat → Nat} {T i : Nat} {G : Nat → Value} {w0 w : World} (h : L2 n lb off B A C M T i G w0 w) (hs : Still n lb B A C M w0) (o : Obj) : L2 n lb off B A C M T i G w0 (w.alloc o) := by
  have hg := World.grownBy_alloc w o none
  exact ⟨fun j hj => hg.cell (h.row j hj) (by simp), fun j h1 hj => (h.own j h1 hj).alloc o, fun j hj => (h.lon j hj).alloc o, fun j hj => (h.rd j hj).keep hg (fun _ _ => by simp), h.sep, h.bel.alloc (Nat.le_trans hs.size h.bel.size) o⟩
def mi0 (M : Nat → Nat) (i : Nat) : Nat := M i
/-- while one list is lengthened: it still reads as it was, the longer one lies in its row or in a new one -/
structure Inn (wi w : World) (a : Option Addr) (m c x : Nat) (gv : Value) : Prop where
  rd : Rd w a m x
  grow : wi.grownBy w (Value.slice a m c).ownBlock
  old : ∀ q, (Value.slice a m c).ownBlock = some q → q < wi.heap.size
  head : ∀ y, a = some y → y = ⟨y.block, 0, none⟩
  at' : gv.ownBlock = (Value.slice a m c).ownBlock ∨ ∀ q, gv.ownBlock = some q → wi.heap.size ≤ q
theorem Inn.start {w : World} {a : Option Addr} {m c x B : Nat} (h : OwnB w B (.slice a m c) m (rp m x)) (hh : ∀ y, a = some y → y = ⟨y.block, 0, none⟩) : Inn w w a m c x (.slice a m c) :=
  ⟨Rd.of h (Nat.le_refl _) rfl hh, World.grownBy.refl _ _, fun q hq => (h.lt q hq).2, hh, .inl rfl⟩
theorem Inn.step {wi w w' : World} {a : Option Addr} {m c x B n : Nat} {gv gv' : Value} {o : Obj} (h : Inn wi w a m c x gv) (ho : OwnB w' B gv' n (rp n x)) (hn : m ≤ n)
    (hs : ((w.alloc o).grownBy w' none ∧ ∀ q, gv'.ownBlock = some q → (w.alloc o).heap.size ≤ q) ∨ ((w.alloc o).grownBy w' gv.ownBlock ∧ gv'.ownBlock = gv.ownBlock ∧ gv.ownBlock ≠ none)) : Inn wi w' a m c x gv' := by
  have ha : wi.grownBy (w.alloc o) (Value.slice a m c).ownBlock := gtrans h.grow (World.grownBy_alloc w o _)
  have hra : Rd (w.alloc o) a m x := h.rd.keep (World.grownBy_alloc w o none) (fun _ _ => by simp)
  rcases hs with ⟨hg, hq⟩ | ⟨hg, e, hne⟩
  · exact ⟨hra.keep hg (fun _ _ => by simp), gfar ha hg (fun _ h => by simp at h), h.old, h.head, .inr (fun q hq' => Nat.le_trans ha.size (hq q hq'))⟩
  · rcases h.at' with h1 | h1
    · refine ⟨?_, gtrans ha (by rw [← h1]; exact hg), h.old, h.head, .inl (e.trans h1)⟩
      obtain ⟨a', c', rfl⟩ := owns_shape ho
      exact Rd.of ho hn (h1.symm.trans e.symm) h.head
    · refine ⟨hra.keep hg (fun g hg' e' => ?_), gfar ha hg h1, h.old, h.head, .inr (fun q hq => h1 q (e ▸ hq))⟩
      have h2 := h.old g (by rw [hg']; rfl)
      have h3 := h1 g e'.symm
      omega
end Go.Proofs.Ytfnmidaiabjpbab.Ap
