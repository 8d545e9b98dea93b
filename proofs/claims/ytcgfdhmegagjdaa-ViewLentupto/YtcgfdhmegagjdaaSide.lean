/-
  A cursor, the document's own beside it, and the row that both go over; frames told by colours of blocks.
-/
import Derived.Test.YtcgfdhmegagjdaaCursor2
import Derived.Test.YtcgfdhmegagjdaaRoomyB
namespace Go.Proofs.Ytcgfdhmegagjdaa
open Go.RowKit

/-- only blocks of the colour c were changed, or new ones made -/
inductive Off (col : Nat → Nat) (c : Nat) : World → World → Prop
  | refl (w : World) : Off col c w w
  | step {w w1 w2 : World} {r : Option Nat} : Off col c w w1 → w1.grownBy w2 r → (∀ b, r = some b → col b = c) → Off col c w w2
theorem Off.one {col : Nat → Nat} {c : Nat} {w w1 : World} {b : Nat} (h : w.grownBy w1 (some b)) (hc : col b = c) : Off col c w w1 := (Off.refl w).step h (by intro x hx; cases hx; exact hc)
theorem Off.trans {col : Nat → Nat} {c : Nat} {w w1 w2 : World} (h : Off col c w w1) (k : Off col c w1 w2) : Off col c w w2 := by
  induction k with
  | refl => exact h
  | step _ hg hr ih => exact ih.step hg hr
theorem Off.then {col : Nat → Nat} {c : Nat} {w w1 w2 : World} {b : Nat} (h : Off col c w w1) (k : w1.grownBy w2 (some b)) (hc : col b = c) : Off col c w w2 := h.step k (by intro x hx; cases hx; exact hc)
theorem Off.thenB {col : Nat → Nat} {c : Nat} {w w1 w2 : World} (h : Off col c w w1) (k : Below w1.heap.size w1 w2) : Off col c w w2 := h.step (grown_below k none) (by intro x hx; cases hx)
theorem Off.size {col : Nat → Nat} {c : Nat} {w w1 : World} (h : Off col c w w1) : w.heap.size ≤ w1.heap.size := by
  induction h with
  | refl => exact Nat.le_refl _
  | step _ hg _ ih => exact Nat.le_trans ih hg.size
theorem Off.low {col : Nat → Nat} {c base : Nat} {w0 w w1 : World} (h : Off col c w w1) (hb : Below base w0 w) (hs : base ≤ w.heap.size) (hc : ∀ b, col b = c → base ≤ b) : Below base w0 w1 := by
  induction h with
  | refl => exact hb
  | step ho hg hr ih => exact ih.grown hg (Nat.le_trans hs ho.size) (fun j hj => hc j (hr j hj))
theorem Off.cur {col : Nat → Nat} {c : Nat} {w w1 : World} (h : Off col c w w1) {B : Nat} {a : Option Addr} {len p : Nat} (hc : col B ≠ c) (k : Cur w B a len p) : Cur w1 B a len p := by
  induction h with
  | refl => exact k
  | step _ hg hr ih => exact ih.grown hg (fun e => hc (hr _ e.symm))
theorem Off.rcur {col : Nat → Nat} {c : Nat} {w w1 : World} (h : Off col c w w1) {B : Nat} {a : Option Addr} {len cap p : Nat} (hc : col B ≠ c) (k : RCur w B a len cap p) : RCur w1 B a len cap p := by
  induction h with
  | refl => exact k
  | step _ hg hr ih => exact ih.grown hg (fun e => hc (hr _ e.symm))
theorem owns_kept {w w1 : World} {base : Nat} {e : TypeId} {v : Value} {m : Nat} {xs : List Value} {r : Option Nat} (h : w.ownsRow base e 1 v m xs) (hg : w.grownBy w1 r) (hr : ∀ b, v.ownBlock = some b → some b ≠ r) : w1.ownsRow base e 1 v m xs := by
  refine h.kept hg ?_
  cases hv : v.ownBlock with
  | none => exact .inl rfl
  | some b => exact .inr (by have := hr b hv; simpa using this)
theorem Off.owns {col : Nat → Nat} {c : Nat} {w w1 : World} (h : Off col c w w1) {base : Nat} {e : TypeId} {v : Value} {m : Nat} {xs : List Value} (k : w.ownsRow base e 1 v m xs) (hc : ∀ b, v.ownBlock = some b → col b ≠ c) : w1.ownsRow base e 1 v m xs := by
  induction h with
  | refl => exact k
  | step _ hg hr ih => exact owns_kept ih hg (fun b hb e => hc b hb (hr b e.symm))

theorem curWindow_total (B : Nat) (a : Option Addr) (p : Nat) (n : Int) (bs : List Nat) (w : World) (h : Cur w B a bs.length p) (h3 : bs.length ≤ 1048576) (hp : p ≤ bs.length) (hn : n ≤ 9223372036854775807) :
    Calls Try.prog 45 #[.pointer (some ⟨B, 0, none⟩), .int .i64 n] w fun e w' => ∃ wa, e = .returned (.tuple #[.slice wa (wB bs p n).length (wB bs p n).length, .int .i64 (wE bs.length p n)]) ∧ (∀ W, Seg .u8 W a (toI bs) → Seg .u8 W wa (toI (wB bs p n))) ∧ Cur w' B a bs.length (np (wE bs.length p n) p n) ∧ w.grownBy w' (some B) := by
  by_cases h1 : n < 0 ∨ (bs.length : Int) < p + n
  · have e1 : wE bs.length p n = if n < 0 then 1 else 10 := by unfold wE; by_cases h0 : n < 0 <;> simp [h0]; omega
    have e2 : wE bs.length p n ≠ 0 := by rw [e1]; split <;> decide
    have e3 : wB bs p n = [] := by simp [wB, e2]
    rw [np_no _ e2, e3, e1]
    refine (curWindow_bad B a bs.length p n w h hp (by omega) hn h1).mono ?_
    rintro e w' ⟨rfl, hb'⟩
    exact ⟨none, rfl, fun _ _ => .inl rfl, h.below hb', grown_below hb' _⟩
  · obtain ⟨m, rfl⟩ : ∃ m : Nat, n = (m : Int) := ⟨n.toNat, by omega⟩
    have e1 : wE bs.length p m = 0 := by rw [wE_zero]; omega
    have e2 : wB bs p m = (bs.drop p).take m := by simp [wB, e1]
    have e3 : (wB bs p m).length = m := by rw [e2]; simp; omega
    rw [e1, np_ok, e3, e2]
    refine (curWindow_ok B a bs.length p m w h (by omega) (by omega)).mono ?_
    rintro e w' ⟨rfl, hc, hg⟩
    refine ⟨_, rfl, ?_, by simpa using hc, hg⟩
    intro W hW
    rw [← toI_take, ← toI_drop]
    exact hW.cut p m (by rw [toI_len]; omega)

structure Side (w : World) (col : Nat → Nat) (c B R WB : Nat) (RA : Option Addr) (wc rc : Nat) (bs : List Nat) (p : Nat) : Prop where
  cur : Cur w B (some ⟨WB, 0, none⟩) bs.length p
  ref : RCur w R RA bs.length rc p
  wide : w.ownsRow 0 5 1 (.slice (some ⟨WB, 0, none⟩) (bs.length + 75) wc) (bs.length + 75) ((toI (bs ++ marks 75)).map (Value.int .u8))
  rrow : w.ownsRow 0 5 1 (.slice RA bs.length rc) bs.length ((toI bs).map (Value.int .u8))
  b256 : ∀ x ∈ bs, x < 256
  hp : p ≤ bs.length
  h3 : bs.length ≤ 1048576
  cB : col B = c
  cR : col R = c
  cW : col WB = c
  cA : ∀ b, (Value.slice RA bs.length rc).ownBlock = some b → col b = c ∧ b ≠ B ∧ b ≠ R ∧ b ≠ WB
  d1 : B ≠ R
  d2 : B ≠ WB
  d3 : R ≠ WB
theorem own_wide {WB n wc b : Nat} (hb : (Value.slice (some ⟨WB, 0, none⟩) n wc).ownBlock = some b) : b = WB := by simpa [Value.ownBlock] using hb.symm
theorem Side.off {w w1 : World} {col : Nat → Nat} {c c' B R WB : Nat} {RA : Option Addr} {wc rc : Nat} {bs : List Nat} {p : Nat} (h : Side w col c B R WB RA wc rc bs p) (k : Off col c' w w1) (hc : c ≠ c') : Side w1 col c B R WB RA wc rc bs p :=
  ⟨k.cur (by rw [h.cB]; exact hc) h.cur, k.rcur (by rw [h.cR]; exact hc) h.ref, k.owns h.wide (fun b hb => by rw [own_wide hb, h.cW]; exact hc), k.owns h.rrow (by intro b hb; rw [(h.cA b hb).1]; exact hc), h.b256, h.hp, h.h3, h.cB, h.cR, h.cW, h.cA, h.d1, h.d2, h.d3⟩
theorem owns_seg_at {w : World} {base : Nat} {e : TypeId} {g : Option Addr} {n c : Nat} {k : IntKind} {zs : List Int} (h : w.ownsRow base e 1 (.slice g n c) n (zs.map (Value.int k))) : Seg k w g zs := by
  obtain ⟨a, c', e1, hs, _⟩ := owns_seg h
  simp only [Value.slice.injEq, true_and] at e1
  rw [e1.1]
  exact hs
theorem seg_left {k : IntKind} {w : World} {a : Option Addr} {xs ys : List Nat} (h : Seg k w a (toI (xs ++ ys))) : Seg k w a (toI xs) := by
  have := h.part0 xs.length (by simp [toI])
  rw [toI_take] at this
  simpa using this
theorem Side.seg {w : World} {col : Nat → Nat} {c B R WB : Nat} {RA : Option Addr} {wc rc : Nat} {bs : List Nat} {p : Nat} (h : Side w col c B R WB RA wc rc bs p) : Seg .u8 w (some ⟨WB, 0, none⟩) (toI bs) := seg_left (owns_seg_at h.wide)
theorem Side.rseg {w : World} {col : Nat → Nat} {c B R WB : Nat} {RA : Option Addr} {wc rc : Nat} {bs : List Nat} {p : Nat} (h : Side w col c B R WB RA wc rc bs p) : Seg .u8 w RA (toI bs) := owns_seg_at h.rrow
/-- the cursor's block and the document's are turned -/
theorem Side.moved {w w1 w2 : World} {col : Nat → Nat} {c B R WB : Nat} {RA : Option Addr} {wc rc : Nat} {bs : List Nat} {p : Nat} (h : Side w col c B R WB RA wc rc bs p) (q : Nat) (hq : q ≤ bs.length)
    (k1 : w.grownBy w1 (some B)) (c1 : Cur w1 B (some ⟨WB, 0, none⟩) bs.length q) (k2 : w1.grownBy w2 (some R)) (c2 : RCur w2 R RA bs.length rc q) : Side w2 col c B R WB RA wc rc bs q ∧ Off col c w w2 := by
  refine ⟨⟨c1.grown k2 (by simpa using h.d1), c2, ?_, ?_, h.b256, hq, h.h3, h.cB, h.cR, h.cW, h.cA, h.d1, h.d2, h.d3⟩, (Off.one k1 h.cB).then k2 h.cR⟩
  · have a1 := owns_kept h.wide k1 (fun b hb => by rw [own_wide hb]; simpa using h.d2.symm)
    exact owns_kept a1 k2 (fun b hb => by rw [own_wide hb]; simpa using h.d3.symm)
  · have a1 := owns_kept h.rrow k1 (by intro b hb; have := (h.cA b hb).2.1; simpa using this)
    exact owns_kept a1 k2 (by intro b hb; have := (h.cA b hb).2.2.1; simpa using this)
theorem np_le {len p : Nat} {n er : Int} (hp : p ≤ len) (h : er = 0 → 0 ≤ n ∧ (p : Int) + n ≤ len) : np er p n ≤ len := by
  unfold np
  split
  · rename_i e; have := h e; omega
  · exact hp
end Go.Proofs.Ytcgfdhmegagjdaa
