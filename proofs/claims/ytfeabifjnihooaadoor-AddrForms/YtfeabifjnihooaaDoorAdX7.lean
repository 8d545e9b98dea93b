/-
  Layer 4: an address of version 6 read, round by round, in numbers.
-/
import Derived.Test.YtfeabifjnihooaaDoorAdX6
namespace Go.Proofs.YtfeabifjnihooaaDoor
open Go.RowKit

theorem grp_flag {s : ByteArray} {X : SX} (hX : X.er = 0) (h : (grp s X).1.er = 0) : (grp s X).2 = ((grp s X).1.p == s.size) := by
  have hf : ∀ e a : Nat, e ≠ 0 → ¬ (X.fail e a).er = 0 := fun e a he => by rw [SX.fail_er hX]; exact he
  unfold grp grpq at h ⊢
  obtain ⟨q, hq⟩ : ∃ q, q = scP s hxB X.p := ⟨_, rfl⟩
  rw [← hq] at h ⊢
  cases c1 : q == X.p with
  | true => rw [c1] at h; exact absurd h (hf _ _ (hrE_ne s X.p).1)
  | false =>
    rw [c1] at h
    cases c2 : decide (rmN X < X.g.length + (if tlB s X q then 2 else 1)) with
    | true => rw [c2] at h; exact absurd h (hf _ _ (by decide))
    | false =>
      rw [c2] at h
      cases c3 : tlB s X q with
      | true =>
        rw [c3] at h
        cases hd : dtd s 4 X.p [] with
        | inr e => rw [hd] at h; exact absurd h (hf _ _ (dtd_er 4 X.p [] hd).1)
        | inl l => show true = (s.size == s.size); simp
      | false =>
        rw [c3] at h
        cases c4 : decide (4 < q - X.p) with
        | true => rw [c4] at h; exact absurd h (hf _ _ (by decide))
        | false => rfl
theorem slp_round {s : ByteArray} {X : SX} (hX : X.er = 0) (hp : X.p ≤ s.size) {f : Nat} (hf : mZ s (X, false) ≤ f) : slp s f (X, false) = slp s (f - 1) (rnd s X) := by
  have h1 : mZ s (X, false) = s.size + 1 - X.p := by unfold mZ; rw [if_pos (by simp [hX])]
  obtain ⟨f', rfl⟩ : ∃ f', f = f' + 1 := ⟨f - 1, by omega⟩
  show (if !false && X.er == 0 then slp s f' (rnd s X) else X) = _
  rw [if_pos (by simp [hX])]
  rfl
/-- what six answers -/
def sxR (L : SX) (n : Nat) : Sum (Nat → Nat) (Nat × Nat) := if L.er ≠ 0 then .inr (L.er, L.pl) else if L.gap < 0 ∧ L.g.length < 8 then .inr (42, n) else .inl (fil L L.g.length)
theorem pIP_six {s : ByteArray} (hs : s.size ≤ 45) (hc : hsB s 58 = true) : pIP s = match sxR (sxL s) s.size with | .inr e => .inr e | .inl x => .inl (6, x) := by
  unfold pIP sxR
  rw [if_neg (by omega), hc, if_pos rfl]
  by_cases h1 : (sxL s).er ≠ 0
  · rw [if_pos h1, if_pos h1]
  · rw [if_neg h1, if_neg h1]
    by_cases h2 : (sxL s).gap < 0 ∧ (sxL s).g.length < 8
    · rw [if_pos h2, if_pos h2]
    · rw [if_neg h2, if_neg h2]
section
variable {s : ByteArray} {Y : SX}
theorem bO_end (c1 : (Y.p == s.size) = true) : btO s Y = (Y, false, if decide (Y.g.length < 8) && !decide (0 ≤ Y.gap) then 42 else 0) := by unfold btO; rw [c1, if_pos rfl]
theorem bO_two (c1 : (Y.p == s.size) = false) (c2 : twB s Y.p = true) : btO s Y = if decide (0 ≤ Y.gap) || Y.g.length == 8 then (Y, false, 44) else ({ Y with gap := (Y.g.length : Nat), p := Y.p + 2 }, !(Y.p + 2 == s.size), 0) := by unfold btO; rw [c1, if_neg (by decide), c2, if_pos rfl]
theorem bO_one (c1 : (Y.p == s.size) = false) (c2 : twB s Y.p = false) : btO s Y = if sB s Y.p == 58 then ({ Y with p := Y.p + 1 }, true, 0) else (Y, false, 41) := by unfold btO; rw [c1, if_neg (by decide), c2, if_neg (by decide)]
theorem bW_two (c2 : twB s Y.p = true) : btw s Y = if decide (0 ≤ Y.gap) || Y.g.length == 8 then (Y.fail 44 Y.p, false) else ({ Y with gap := (Y.g.length : Nat), p := Y.p + 2 }, Y.p + 2 == s.size) := by unfold btw; rw [c2, if_pos rfl]
theorem bW_one (c2 : twB s Y.p = false) : btw s Y = if sB s Y.p == 58 then ({ Y with p := Y.p + 1 }, false) else (Y.fail 41 Y.p, false) := by unfold btw; rw [c2, if_neg (by decide)]
end
theorem rnd_stop {s : ByteArray} {X Y : SX} (h : grp s X = (Y, true)) : rnd s X = (Y, true) := by unfold rnd; rw [h]; rfl
theorem rnd_on {s : ByteArray} {X Y : SX} (h : grp s X = (Y, false)) (he : Y.er = 0) : rnd s X = btw s Y := by unfold rnd; rw [h, if_pos (by simp [he])]
theorem sxR_er {s : ByteArray} {Y : SX} (h : Y.er = 0) (e f n : Nat) (h0 : e ≠ 0) : sxR (slp s f (Y.fail e Y.p, false)) n = .inr (e, Y.p) := by
  rw [SX.fail_at h, slp_end (by simp [h0])]
  unfold sxR
  rw [if_pos (by exact h0)]
theorem sxR_cut {s : ByteArray} {Y : SX} (h : Y.er = 0) (f n : Nat) (c : Y.gap < 0 ∧ Y.g.length < 8) : sxR (slp s f (Y, true)) n = .inr (42, n) := by
  rw [slp_end (by rfl)]
  unfold sxR
  rw [if_neg (by simp [h]), if_pos c]
/-- the round's end, behind a group that was read -/
theorem round_no {s : ByteArray} {X : SX} (hX : X.er = 0) (h : (grp s X).1.er = 0) (he : (btO s (grp s X).1).2.2 ≠ 0) (f : Nat) : sxR (slp s f (rnd s X)) s.size = .inr ((btO s (grp s X).1).2.2, (btO s (grp s X).1).1.p) := by
  have hfl := grp_flag hX h
  obtain ⟨Y, hY⟩ : ∃ Y, Y = (grp s X).1 := ⟨_, rfl⟩
  rw [← hY] at h he hfl ⊢
  cases c1 : Y.p == s.size with
  | true =>
    rw [c1] at hfl
    have e1 : grp s X = (Y, true) := by rw [hY]; exact Prod.ext rfl hfl
    have e2 := bO_end c1
    cases c2 : (decide (Y.g.length < 8) && !decide (0 ≤ Y.gap)) with
    | true =>
      rw [c2, if_pos rfl] at e2
      have k : Y.gap < 0 ∧ Y.g.length < 8 := by simp at c2; exact ⟨by omega, c2.1⟩
      have k2 : Y.p = s.size := by simpa using c1
      rw [rnd_stop e1, e2, sxR_cut h f _ k, k2]
    | false => rw [e2, c2] at he; exact absurd rfl he
  | false =>
    rw [c1] at hfl
    have e1 : grp s X = (Y, false) := by rw [hY]; exact Prod.ext rfl hfl
    rw [rnd_on e1 h]
    cases c2 : twB s Y.p with
    | true =>
      have e2 := bO_two c1 c2
      have e3 := bW_two (s := s) c2
      cases c3 : (decide (0 ≤ Y.gap) || Y.g.length == 8) with
      | true =>
        rw [c3, if_pos rfl] at e2 e3
        rw [e2, e3]
        exact sxR_er h 44 f _ (by decide)
      | false => rw [e2, c3] at he; exact absurd rfl he
    | false =>
      have e2 := bO_one c1 c2
      have e3 := bW_one (s := s) c2
      cases c3 : sB s Y.p == 58 with
      | true => rw [e2, c3] at he; exact absurd rfl he
      | false =>
        rw [c3, if_neg (by decide)] at e2 e3
        rw [e2, e3]
        exact sxR_er h 41 f _ (by decide)
theorem round_go {s : ByteArray} {X : SX} (hX : X.er = 0) (h : (grp s X).1.er = 0) (he : (btO s (grp s X).1).2.2 = 0) : rnd s X = ((btO s (grp s X).1).1, !(btO s (grp s X).1).2.1) ∧ (btO s (grp s X).1).1.er = 0 ∧ ((btO s (grp s X).1).2.1 = false → (btO s (grp s X).1).1.gap < 0 → 8 ≤ (btO s (grp s X).1).1.g.length) := by
  have hfl := grp_flag hX h
  obtain ⟨Y, hY⟩ : ∃ Y, Y = (grp s X).1 := ⟨_, rfl⟩
  rw [← hY] at h he hfl ⊢
  cases c1 : Y.p == s.size with
  | true =>
    rw [c1] at hfl
    have e1 : grp s X = (Y, true) := by rw [hY]; exact Prod.ext rfl hfl
    have e2 := bO_end c1
    cases c2 : (decide (Y.g.length < 8) && !decide (0 ≤ Y.gap)) with
    | true => rw [e2, c2] at he; exact absurd he (by simp)
    | false =>
      rw [c2, if_neg (by decide)] at e2
      rw [e2, rnd_stop e1]
      refine ⟨rfl, h, fun _ hg => ?_⟩
      have hg' : Y.gap < 0 := hg
      show 8 ≤ Y.g.length
      simp at c2
      omega
  | false =>
    rw [c1] at hfl
    have e1 : grp s X = (Y, false) := by rw [hY]; exact Prod.ext rfl hfl
    rw [rnd_on e1 h]
    cases c2 : twB s Y.p with
    | true =>
      have e2 := bO_two c1 c2
      have e3 := bW_two (s := s) c2
      cases c3 : (decide (0 ≤ Y.gap) || Y.g.length == 8) with
      | true => rw [e2, c3] at he; exact absurd he (by simp)
      | false =>
        rw [c3, if_neg (by decide)] at e2 e3
        rw [e2, e3]
        refine ⟨by simp, h, fun _ hg => ?_⟩
        have hg' : ((Y.g.length : Nat) : Int) < 0 := hg
        omega
    | false =>
      have e2 := bO_one c1 c2
      have e3 := bW_one (s := s) c2
      cases c3 : sB s Y.p == 58 with
      | true =>
        rw [c3, if_pos rfl] at e2 e3
        rw [e2, e3]
        exact ⟨rfl, h, fun h0 => by cases h0⟩
      | false => rw [e2, c3] at he; exact absurd he (by simp)
theorem round_er {s : ByteArray} {X : SX} (h : (grp s X).1.er ≠ 0) (f : Nat) : sxR (slp s f (rnd s X)) s.size = .inr ((grp s X).1.er, (grp s X).1.pl) := by
  unfold rnd
  rw [if_neg (by simp [h])]
  have e : slp s f (grp s X) = (grp s X).1 := slp_end (by simp [h]) f
  rw [e]
  unfold sxR
  rw [if_pos h]
/-- more, and the place: what the rounds go down by -/
def sxN (s : ByteArray) (R : Nat) (d : Value) (w : World) : Nat := match d, w.cell? ⟨R, 1, none⟩ with
  | .bool true, some (.int _ p) => s.size + 1 - p.toNat
  | _, _ => 0
theorem sxN_go {s : ByteArray} {R p : Nat} {w : World} (h : RdAt w R s p) : sxN s R (.bool true) w = s.size + 1 - p := by
  unfold sxN
  rw [h.c1]
  simp
theorem results_ar_tmp {fn : Func} {p u0 : Tmp} (h : fn.results = #[.cell p 22, .tmp u0]) (tmps : Array Value) (w : World) (O : Nat) (x : Nat → Nat) (hp : tmps.getD p undef = .pointer (some ⟨O, 0, none⟩)) (hb : ArAt w O (arCells x)) :
    (results fn tmps).run Tryd.prog w = .ok (.tuple #[.agg (arCells x), tmps.getD u0 undef]) w := by
  have hp' : tmps[p]?.getD undef = .pointer (some ⟨O, 0, none⟩) := by simpa using hp
  simp [results, h, hp', asAddr, run_loadVar_row w O _ 22 (arCells x) _ _ hb Tryd.underlying22 rfl Tryd.sizeAr]
end Go.Proofs.YtfeabifjnihooaaDoor
