/-
  The statements' stand.
-/
import Derived.Test.YtcgfdhmegagjdaaFamFill
namespace Go.Proofs.Ytcgfdhmegagjdaa.Fm
open Go.RowKit

def tl (c : Nat) : Nat := if c = 0 then 1 else if c = 1 then 2 else 70
/-- the lists and the longer ones, as they lie -/
structure Std (w : World) (base bm lb lc N mb mc : Nat) (V M : Nat → Value) (n : Nat → Nat) : Prop where
  lst : w.ownsRow base 22 1 (.slice (some ⟨lb, 0, none⟩) N lc) N ((List.range N).map V)
  more : w.ownsRow bm 22 1 (.slice (some ⟨mb, 0, none⟩) (3 * N) mc) (3 * N) ((List.range (3 * N)).map M)
  row : ∀ i, i < N → w.ownsRow base 5 1 (V i) (n i) (mks (n i) i (n i))
  long : ∀ i c, i < N → c < 3 → w.ownsRow base 5 1 (M (3 * i + c)) (n i + tl c) (mks (n i) i (n i + tl c))
/-- their blocks -/
def StdB (lb N mb : Nat) (V M : Nat → Value) (q : Nat) : Prop := q = lb ∨ q = mb ∨ (∃ i, i < N ∧ (V i).ownBlock = some q) ∨ ∃ k, k < 3 * N ∧ (M k).ownBlock = some q
theorem Std.ch {S : Nat → Prop} {w w' : World} {base bm lb lc N mb mc : Nat} {V M : Nat → Value} {n : Nat → Nat} (h : Std w base bm lb lc N mb mc V M n) (k : Ch S w w') (hS : ∀ q, StdB lb N mb V M q → ¬ S q) : Std w' base bm lb lc N mb mc V M n :=
  ⟨k.owns h.lst (fun q hq => hS q (.inl (by simpa [Value.ownBlock] using hq.symm))), k.owns h.more (fun q hq => hS q (.inr (.inl (by simpa [Value.ownBlock] using hq.symm)))), fun i hi => k.owns (h.row i hi) (fun q hq => hS q (.inr (.inr (.inl ⟨i, hi, hq⟩)))), fun i c hi hc => k.owns (h.long i c hi hc) (fun q hq => hS q (.inr (.inr (.inr ⟨3 * i + c, by omega, hq⟩))))⟩
theorem Std.below {w w' : World} {base bm lb lc N mb mc : Nat} {V M : Nat → Value} {n : Nat → Nat} (h : Std w base bm lb lc N mb mc V M n) (k : Below w.heap.size w w') : Std w' base bm lb lc N mb mc V M n := h.ch (Ch.ofBelow (S := none_) k) (fun _ _ => id)
theorem Std.lt {w : World} {base bm lb lc N mb mc : Nat} {V M : Nat → Value} {n : Nat → Nat} (h : Std w base bm lb lc N mb mc V M n) : ∀ q, StdB lb N mb V M q → q < w.heap.size := by
  rintro q (e | e | ⟨i, hi, e⟩ | ⟨k, hk, e⟩)
  · rw [e]; exact (h.lst.lt lb rfl).2
  · rw [e]; exact (h.more.lt mb rfl).2
  · exact ((h.row i hi).lt q e).2
  · have := h.long (k / 3) (k % 3) (by omega) (Nat.mod_lt _ (by decide))
    rw [show 3 * (k / 3) + k % 3 = k by omega] at this
    exact (this.lt q e).2
theorem Std.ge {w : World} {base bm lb lc N mb mc : Nat} {V M : Nat → Value} {n : Nat → Nat} (h : Std w base bm lb lc N mb mc V M n) (hbm : base ≤ bm) : ∀ q, StdB lb N mb V M q → base ≤ q := by
  rintro q (e | e | ⟨i, hi, e⟩ | ⟨k, hk, e⟩)
  · rw [e]; exact (h.lst.lt lb rfl).1
  · rw [e]; exact Nat.le_trans hbm (h.more.lt mb rfl).1
  · exact ((h.row i hi).lt q e).1
  · have := h.long (k / 3) (k % 3) (by omega) (Nat.mod_lt _ (by decide))
    rw [show 3 * (k / 3) + k % 3 = k by omega] at this
    exact (this.lt q e).1
theorem Std.of {w0 w : World} {base : Nat} {n : Nat → Nat} {S : Nat → Prop} {lb lc N : Nat} {V : Nat → Value} {F : List Sl} {mb mc : Nat} {M : Nat → Value} (h : Fam w0 w base n S (.slice (some ⟨lb, 0, none⟩) N lc) N V F) (hM : Mem n F V M N N) (hm : w.ownsRow w0.heap.size 22 1 (.slice (some ⟨mb, 0, none⟩) (3 * N) mc) (3 * N) ((List.range (3 * N)).map M)) : Std w base w0.heap.size lb lc N mb mc V M n := by
  refine ⟨h.lst, hm, fun i hi => h.rows _ (hM.1 i hi), fun i c hi hc => ?_⟩
  obtain ⟨h0, h1, h2⟩ := hM.2 i hi
  match c, hc with
  | 0, _ => exact h.rows _ h0
  | 1, _ => exact h.rows _ h1
  | 2, _ => exact h.rows _ h2

set_option maxRecDepth 100000 in
set_option maxHeartbeats 3200000 in
theorem stand_any (base bm lb lc N mb mc : Nat) (V M : Nat → Value) (n : Nat → Nat) (w : World) (h : Std w base bm lb lc N mb mc V M n) (hN : N ≤ 100) (hn : ∀ i, n i ≤ 1000000) :
    Calls Try.prog 17 #[.slice (some ⟨lb, 0, none⟩) N lc, .slice (some ⟨mb, 0, none⟩) (3 * N) mc] w fun e w' => e = .returned (.bool true) ∧ w = w' := by
  go_enter Try.func17, Try.ntmps17
  go_wp2
  go_loop [5] (fun ix => ∃ i : Nat, i ≤ N ∧ ix = .int .i64 i) (fun ix => N - (intOf ix).toNat)
  case atStart => exact ⟨0, by omega, rfl⟩
  case round =>
  obtain ⟨i, hiN, rfl⟩ := hrel
  by_cases hlt : i < N
  · have cl := lst_cell' h.lst i hlt
    obtain ⟨va, vc, hv⟩ := owns_shape (h.row i hlt)
    rw [hv] at cl
    have HV : Hid (V i = .slice va (n i) vc) := hv
    obtain ⟨g0, c0, e0, _, _⟩ := own_block (h.long i 0 hlt (by decide)) (by simp [tl])
    obtain ⟨g1, c1, e1, _, _⟩ := own_block (h.long i 1 hlt (by decide)) (by simp [tl])
    obtain ⟨g2, c2, e2, _, _⟩ := own_block (h.long i 2 hlt (by decide)) (by simp [tl])
    have m0 : w.cell? ⟨mb, 3 * i, none⟩ = some (.slice (some ⟨g0, 0, none⟩) (n i + 1) c0) := by have := lst_cell' h.more (3 * i) (by omega); rw [this, show 3 * i = 3 * i + 0 by omega, e0]; rfl
    have m1 : w.cell? ⟨mb, 3 * i + 1, none⟩ = some (.slice (some ⟨g1, 0, none⟩) (n i + 2) c1) := by have := lst_cell' h.more (3 * i + 1) (by omega); rw [this, e1]; rfl
    have m2 : w.cell? ⟨mb, 3 * i + 2, none⟩ = some (.slice (some ⟨g2, 0, none⟩) (n i + 70) c2) := by have := lst_cell' h.more (3 * i + 2) (by omega); rw [this, e2]; rfl
    have hni := hn i
    obtain ⟨ni, hnie⟩ : ∃ ni, ni = n i := ⟨_, rfl⟩
    rw [← hnie] at cl m0 m1 m2 hni
    have HNI : Hid (n i = ni) := hnie.symm
    have t0 : (3 * (i : Int)).toNat = 3 * i := by omega
    have t1 : (3 * (i : Int) + 1).toNat = 3 * i + 1 := by omega
    have t2 : (3 * (i : Int) + 2).toNat = 3 * i + 2 := by omega
    have b0 : (0 : Int) ≤ 3 * (i : Int) := by omega
    have b1 : 3 * (i : Int) < ((3 * N : Nat) : Int) := by omega
    have b2 : 3 * (i : Int) + 1 < ((3 * N : Nat) : Int) := by omega
    have b3 : 3 * (i : Int) + 2 < ((3 * N : Nat) : Int) := by omega
    clear hv hnie e0 e1 e2
    go_wp2
    go_loop [7] (fun ix => ∃ c : Nat, c ≤ 3 ∧ ix = .int .i64 (3 * (i : Int) + c)) (fun ix => 3 * i + 3 - (intOf ix).toNat)
    case atStart => exact ⟨0, by omega, by simp⟩
    case round =>
      obtain ⟨c, hc3, rfl⟩ := hrel
      clear t0 t1 t2 b0 b1 b2 b3 m0 m1 m2
      by_cases hcl : c < 3
      · have hlong := h.long i c hlt hcl
        obtain ⟨g, cc, e, _, _⟩ := own_block hlong (by unfold tl; split <;> (try split) <;> omega)
        have mk : w.cell? ⟨mb, 3 * i + c, none⟩ = some (.slice (some ⟨g, 0, none⟩) (n i + tl c) cc) := by rw [lst_cell' h.more (3 * i + c) (by omega), e]
        rw [e] at hlong
        have htl : tl c ≤ 70 := by unfold tl; split <;> (try split) <;> omega
        obtain ⟨T, hT⟩ : ∃ T, T = tl c := ⟨_, rfl⟩
        rw [← hT] at mk hlong htl
        rw [HNI.out] at mk
        have kt : (3 * (i : Int) + (c : Int)).toNat = 3 * i + c := by omega
        have k0 : (0 : Int) ≤ 3 * (i : Int) + (c : Int) := by omega
        have k1 : 3 * (i : Int) + (c : Int) < ((3 * N : Nat) : Int) := by omega
        have k2 : 3 * (i : Int) + (c : Int) < 3 * (i : Int) + 3 := by omega
        clear hT e
        go_wp2
        go_loop [8] (fun ix => ∃ j : Nat, j ≤ ni + T ∧ ix = .int .i64 j) (fun ix => ni + T - (intOf ix).toNat)
        case atStart => exact ⟨0, by omega, rfl⟩
        case round =>
          obtain ⟨j, hj, rfl⟩ := hrel
          by_cases hjl : j < ni + T
          · have cj : w.cell? ⟨g, j, none⟩ = some (.int .u8 (mkAt (n i) i j : Int)) := by
              rw [hlong.cellAt j (by rw [HNI.out]; omega)]
              exact mks_get _ _ _ _ (by rw [HNI.out]; exact hjl)
            by_cases hjn : j < ni
            · have hrow := h.row i hlt
              obtain ⟨gv, cv, ev, _, _⟩ := own_block hrow (by rw [HNI.out]; omega)
              have ev2 := ev
              rw [HV.out] at ev2
              simp only [Value.slice.injEq, true_and] at ev2
              obtain ⟨rfl, rfl⟩ := ev2
              rw [ev] at hrow
              have vj : w.cell? ⟨gv, j, none⟩ = some (.int .u8 (mkAt (n i) i j : Int)) := by
                rw [hrow.cellAt j (by rw [HNI.out]; omega)]
                exact mks_get _ _ _ _ (by rw [HNI.out]; exact hjn)
              have hm : mkAt (n i) i j = 1 + i % 250 := by unfold mkAt; rw [if_pos (by rw [HNI.out]; exact hjn)]
              rw [hm] at cj vj
              have hu : IntKind.u8.wrap (1 + (i : Int) % 250) = ((1 + i % 250 : Nat) : Int) := by rw [IntKind.wrap_u8]; omega
              obtain ⟨y, hy⟩ : ∃ y, y = 1 + i % 250 := ⟨_, rfl⟩
              rw [← hy] at cj vj hu
              have hne : ((y : Int) != (y : Int)) = false := by simp
              clear hy hm hrow ev hlong
              go_wp2
              go_round
              case rel => exact ⟨j + 1, by omega, by go_num⟩
              case measure => simp [intOf]; omega
            · have hm : mkAt (n i) i j = 251 + i % 5 := by unfold mkAt; rw [if_neg (by rw [HNI.out]; exact hjn)]
              rw [hm] at cj
              have hu : IntKind.u8.wrap (251 + (i : Int) % 5) = ((251 + i % 5 : Nat) : Int) := by rw [IntKind.wrap_u8]; omega
              obtain ⟨y, hy⟩ : ∃ y, y = 251 + i % 5 := ⟨_, rfl⟩
              rw [← hy] at cj hu
              have hne : ((y : Int) != (y : Int)) = false := by simp
              clear hy hm hlong
              go_wp2
              go_round
              case rel => exact ⟨j + 1, by omega, by go_num⟩
              case measure => simp [intOf]; omega
          · clear hlong
            go_wp2
            go_round
            case rel => exact ⟨c + 1, by omega, by go_num⟩
            case measure => simp [intOf]; omega
      · have hcc : ¬ 3 * (i : Int) + (c : Int) < 3 * (i : Int) + 3 := by omega
        go_wp2
        go_round
        case rel => exact ⟨i + 1, by omega, by go_num⟩
        case measure => simp [intOf]; omega
  · go_wp2
    go_ret
    exact ⟨rfl, rfl⟩
end Go.Proofs.Ytcgfdhmegagjdaa.Fm
