/-
  R4j: lemmas of the proof of FlowPlays, and walks through the functions that it calls.
-/
import Derived.Test.YtclpeepnngegaaaGreatDoorP00
import Derived.Test.YtclpeepnngegaaaGreatDoorP18
namespace Go.Proofs.YtclpeepnngegaaaGreatDoor
open Go.RowKit Go.Maps
structure SxOk (s : ByteArray) (X : SX) : Prop where
  p : X.p ≤ s.size
  l : X.g.length ≤ 8
  b : ∀ n ∈ X.g, n < 65536
theorem scn_ge (s : ByteArray) (f : Nat → Bool) : ∀ n p, p ≤ scn s f n p
 | 0, p => Nat.le_refl _
 | n + 1, p => by
  unfold scn
  split
  · exact Nat.le_trans (Nat.le_succ p) (scn_ge s f n (p + 1))
  · exact Nat.le_refl _
theorem scn_le (s : ByteArray) (f : Nat → Bool) : ∀ n p, p ≤ s.size → scn s f n p ≤ s.size
 | 0, p, h => h
 | n + 1, p, h => by
  unfold scn
  split
  · rename_i h2
    simp at h2
    exact scn_le s f n (p + 1) h2.1
  · exact h
theorem SX.fail_er {X : SX} {e a : Nat} (h : X.er = 0) : (X.fail e a).er = e := by unfold SX.fail; rw [h]; rfl
theorem SxOk.fail {s : ByteArray} {X : SX} (h : SxOk s X) (e a : Nat) : SxOk s (X.fail e a) := by
 unfold SX.fail
 split
 · exact ⟨h.p, h.l, h.b⟩
 · exact h
theorem tlB_no {s : ByteArray} (hnd : ∀ i, sB s i ≠ 46) (X : SX) (q : Nat) : tlB s X q = false := by unfold tlB; simp [hnd q]
theorem grp_eq {s : ByteArray} (hnd : ∀ i, sB s i ≠ 46) (X : SX) : grp s X = if scP s hxB X.p == X.p then (X.fail (hrE s X.p).1 (hrE s X.p).2, true) else if decide (rmN X < X.g.length + 1) then (X.fail 44 X.p, true) else if decide (4 < scP s hxB X.p - X.p) then (X.fail 43 X.p, true) else ({ X with g := X.g ++ [hxN s X.p (scP s hxB X.p - X.p)], p := scP s hxB X.p }, scP s hxB X.p == s.size) := by
 unfold grp grpq
 rw [tlB_no hnd]
 rfl
theorem grp_ok {s : ByteArray} (hnd : ∀ i, sB s i ≠ 46) {X : SX} (h : SxOk s X) : SxOk s (grp s X).1 := by
 rw [grp_eq hnd]
 split
 · exact h.fail _ _
 · split
   · exact h.fail _ _
   · rename_i h2
     simp at h2
     have := rmN_le X
     split
     · exact h.fail _ _
     · rename_i h3
       simp at h3
       refine ⟨scn_le s hxB _ _ h.p, by simp; omega, fun n hn => ?_⟩
       simp at hn
       rcases hn with hn | rfl
       · exact h.b n hn
       · exact hxN_small (by omega)
theorem grp_go {s : ByteArray} (hnd : ∀ i, sB s i ≠ 46) {X : SX} (h : SxOk s X) (hg : (grp s X).2 = false) : X.p < (grp s X).1.p ∧ (grp s X).1.p < s.size := by
 have k1 := scn_ge s hxB (s.size - X.p) X.p
 have k2 := scn_le s hxB (s.size - X.p) X.p h.p
 rw [grp_eq hnd] at hg ⊢
 obtain ⟨q, hq⟩ : ∃ q, q = scP s hxB X.p := ⟨_, rfl⟩
 rw [← hq] at hg ⊢
 have k3 : X.p ≤ q := by rw [hq]; exact k1
 have k4 : q ≤ s.size := by rw [hq]; exact k2
 by_cases h1 : q = X.p
 · rw [if_pos (by simp [h1])] at hg; cases hg
 · rw [if_neg (by simp [h1])] at hg ⊢
   split at hg
   · cases hg
   · rename_i h2
     rw [if_neg h2]
     split at hg
     · cases hg
     · rename_i h3
       rw [if_neg h3]
       simp at hg
       refine ⟨?_, ?_⟩
       · show X.p < q; omega
       · show q < s.size; omega
theorem btw_ok {s : ByteArray} {X : SX} (h : SxOk s X) (hp : X.p < s.size) : SxOk s (btw s X).1 := by
 unfold btw
 split
 · rename_i h1
   split
   · exact h.fail _ _
   · unfold twB at h1
     simp at h1
     exact ⟨by show X.p + 2 ≤ s.size; omega, h.l, h.b⟩
 · split
   · exact ⟨hp, h.l, h.b⟩
   · exact h.fail _ _
theorem btw_go {s : ByteArray} {X : SX} (he : X.er = 0) : (btw s X).1.er ≠ 0 ∨ X.p < (btw s X).1.p := by
 unfold btw
 split
 · split
   · exact .inl (by rw [SX.fail_er he]; decide)
   · exact .inr (by show X.p < X.p + 2; omega)
 · split
   · exact .inr (Nat.lt_succ_self _)
   · exact .inl (by rw [SX.fail_er he]; decide)
def rnd (s : ByteArray) (X : SX) : SX × Bool := if !(grp s X).2 && (grp s X).1.er == 0 then btw s (grp s X).1 else grp s X
def slp (s : ByteArray) : Nat → SX × Bool → SX
 | 0, Z => Z.1
 | f + 1, Z => if !Z.2 && Z.1.er == 0 then slp s f (rnd s Z.1) else Z.1
def mZ (s : ByteArray) (Z : SX × Bool) : Nat := if !Z.2 && Z.1.er == 0 then s.size + 1 - Z.1.p else 0
theorem slp_end {s : ByteArray} {Z : SX × Bool} (h : (!Z.2 && Z.1.er == 0) = false) : ∀ f, slp s f Z = Z.1
 | 0 => rfl
 | f + 1 => by unfold slp; rw [h]; rfl
theorem rnd_ok {s : ByteArray} (hnd : ∀ i, sB s i ≠ 46) {X : SX} (h : SxOk s X) : SxOk s (rnd s X).1 := by
 unfold rnd
 split
 · rename_i h1
   simp at h1
   exact btw_ok (grp_ok hnd h) (grp_go hnd h h1.1).2
 · exact grp_ok hnd h
theorem rnd_less {s : ByteArray} (hnd : ∀ i, sB s i ≠ 46) {X : SX} (h : SxOk s X) : mZ s (rnd s X) < s.size + 1 - X.p := by
 have hp := h.p
 unfold rnd
 split
 · rename_i h1
   simp at h1
   obtain ⟨k1, k2⟩ := grp_go hnd h h1.1
   unfold mZ
   split
   · rename_i h2
     simp at h2
     rcases btw_go (s := s) h1.2 with k3 | k3
     · exact absurd h2.2 k3
     · omega
   · omega
 · rename_i h1
   unfold mZ
   rw [if_neg h1]
   omega
def sx0 (s : ByteArray) : SX × Bool := if twB s 0 then (⟨[], 0, 2, 0, 0⟩, s.size == 2) else (⟨[], -1, 0, 0, 0⟩, false)
theorem sx0_ok (s : ByteArray) : SxOk s (sx0 s).1 := by
 unfold sx0
 split
 · rename_i h
   unfold twB at h
   simp at h
   exact ⟨by show 2 ≤ s.size; omega, by simp, by simp⟩
 · exact ⟨Nat.zero_le _, by simp, by simp⟩
def sxL (s : ByteArray) : SX := slp s (s.size + 1) (sx0 s)
theorem sx0_m (s : ByteArray) : mZ s (sx0 s) ≤ s.size + 1 := by unfold mZ; split <;> omega
def kI (X : SX) (i : Nat) : Nat := if decide (0 ≤ X.gap) && decide (X.gap ≤ (i : Int)) then 8 - X.g.length + i else i
def up1 (x : Nat → Nat) (k v : Nat) : Nat → Nat := fun i => if i = k then v else x i
def fil (X : SX) : Nat → (Nat → Nat)
 | 0 => fun _ => 0
 | i + 1 => up1 (up1 (fil X i) (2 * kI X i) (X.g.getD i 0 / 256)) (2 * kI X i + 1) (X.g.getD i 0 % 256)
def sxM (s : ByteArray) (R : Nat) (d : Value) (w : World) : Nat := match d, w.cell? ⟨R, 4, none⟩, w.cell? ⟨R, 3, none⟩ with
 | .bool false, some (.int _ 0), some (.int _ p) => s.size + 1 - p.toNat
 | _, _, _ => 0
theorem sxM_eq {s : ByteArray} {R : Nat} {lv : Value} {X : SX} {w : World} (h : SxAt w R s lv X) (d : Bool) : sxM s R (.bool d) w = mZ s (X, d) := by
 unfold sxM mZ
 rw [h.c3, h.c4]
 cases d with
 | true => rfl
 | false =>
  by_cases he : X.er = 0
  · simp [he]
  · simp only [beq_false_of_ne he]
    cases hx : X.er with
    | zero => exact absurd hx he
    | succ n => rfl
end Go.Proofs.YtclpeepnngegaaaGreatDoor
