/-
  What PutND writes, ParseND reads; what ParseND reads, PutND takes.
-/
import Derived.Test.YtijipfciimcnpaaDoorI8Pure
namespace Go.Proofs.YtijipfciimcnpaaDoor
open Go.RowKit
open I8 (M8)

theorem same6_iff (x y : Nat → Nat) : same6 x y = true ↔ ∀ i, i < 6 → x i = y i := by
  unfold same6
  rw [decide_eq_true_iff]
  constructor
  · rintro ⟨h0, h1, h2, h3, h4, h5⟩ i hi
    have : i = 0 ∨ i = 1 ∨ i = 2 ∨ i = 3 ∨ i = 4 ∨ i = 5 := by omega
    rcases this with rfl | rfl | rfl | rfl | rfl | rfl <;> assumption
  · intro h
    exact ⟨h 0 (by decide), h 1 (by decide), h 2 (by decide), h 3 (by decide), h 4 (by decide), h 5 (by decide)⟩
theorem pnE_zero (k V : Int) (x : Nat → Nat) (r s o h : Bool) (m : Nat → Nat) (e : pnE k V x r s o h m = 0) : (k = 1 → rsB r s o = 0) ∧ (h = false → same6 m (fun _ => 0) = true) ∧ tmB V x = true := by
  unfold pnE at e
  split at e
  · exact absurd e (by decide)
  · rename_i hn
    split at e
    · rename_i ht
      refine ⟨fun hk => Decidable.byContradiction fun hr => hn (.inl ⟨hk, hr⟩), fun hh => ?_, ht⟩
      cases hs : same6 m (fun _ => 0)
      · exact absurd (.inr ⟨hh, hs⟩) hn
      · rfl
    · exact absurd e (by decide)
theorem put_parse_1 (V : Int) (x : Nat → Nat) (r s o h : Bool) (m : Nat → Nat) (e : pnE 1 V x r s o h m = 0) : I8.chk (⟨6, 135, 0, rsB r s o, pnD 1 x h m⟩ : M8) = 0 ∧ pdE (⟨6, 135, 0, rsB r s o, pnD 1 x h m⟩ : M8) = 0 ∧ pdC (⟨6, 135, 0, rsB r s o, pnD 1 x h m⟩ : M8) = ndC 1 V x r s o h m := by
  obtain ⟨hr, hm, ht⟩ := pnE_zero _ _ _ _ _ _ _ _ e
  have hV := tmB_six V x ht
  subst hV
  have hl := pnD_len 1 x h m
  have hck : I8.chk (⟨6, 135, 0, rsB r s o, pnD 1 x h m⟩ : M8) = 0 := by
    unfold I8.chk
    have h1 : I8.isV ((⟨6, 135, 0, rsB r s o, pnD 1 x h m⟩ : M8)).v = true := rfl
    have h2 : I8.okF (⟨6, 135, 0, rsB r s o, pnD 1 x h m⟩ : M8) = true := by
      unfold I8.okF
      have := rs_in r s o
      simp only [this]
      decide
    have h3 : ¬ 65515 < 8 + ((⟨6, 135, 0, rsB r s o, pnD 1 x h m⟩ : M8)).d.length := by show ¬ 65515 < 8 + (pnD 1 x h m).length; rw [hl]; cases h <;> decide
    rw [if_pos h1, if_pos h2, if_neg h3]
  have hk : mkD (⟨6, 135, 0, rsB r s o, pnD 1 x h m⟩ : M8) = 1 := by unfold mkD; rw [if_pos ⟨rfl, rfl⟩]; rfl
  have htg : tgE (pnD 1 x h m) = 0 := by
    unfold tgE
    rw [if_neg (by rw [hl]; cases h <;> decide), tmB_congr 6 (tgX (pnD 1 x h m)) x (fun i hi => pnD_x 1 x h m i hi), ht]
    rfl
  have hlk : ∃ mm, lkM (⟨6, 135, 0, rsB r s o, pnD 1 x h m⟩ : M8) = (mm, h, 0) ∧ ∀ i, i < 6 → mm i = m i := by
    unfold lkM
    rw [hk]
    cases h
    · refine ⟨fun _ => 0, lk_put_no 1 x m, fun i hi => ?_⟩
      exact ((same6_iff _ _).1 (hm rfl) i hi).symm
    · exact ⟨_, lk_put_yes 1 x m, fun i hi => mcX_opt 1 x m i hi⟩
  obtain ⟨mm, hlk, hmm⟩ := hlk
  have hpe : pdE (⟨6, 135, 0, rsB r s o, pnD 1 x h m⟩ : M8) = 0 := by
    unfold pdE
    rw [if_neg (by rw [hck]; decide), hk, if_pos (by rfl), if_neg (fun f => f htg), hlk]
  refine ⟨hck, hpe, ?_⟩
  unfold pdC
  rw [if_pos hpe]
  unfold ndM
  rw [hlk, hk]
  obtain ⟨b1, b2, b3⟩ := fB_rs r s o
  show ndC 1 6 (tgX (pnD 1 x h m)) (((1 : Int) == 2) && fB (rsB r s o) 2147483648) (((1 : Int) == 2) && fB (rsB r s o) 1073741824) (((1 : Int) == 2) && fB (rsB r s o) 536870912) h mm = _
  rw [b1, b2, b3]
  obtain ⟨z1, z2, z3⟩ := rs_zero r s o (hr rfl)
  rw [z1, z2, z3]
  exact ndC_congr 1 6 _ _ _ _ _ h _ _ (fun i hi => pnD_x 1 x h m i hi) hmm
theorem put_parse_2 (V : Int) (x : Nat → Nat) (r s o h : Bool) (m : Nat → Nat) (e : pnE 2 V x r s o h m = 0) : I8.chk (⟨6, 136, 0, rsB r s o, pnD 2 x h m⟩ : M8) = 0 ∧ pdE (⟨6, 136, 0, rsB r s o, pnD 2 x h m⟩ : M8) = 0 ∧ pdC (⟨6, 136, 0, rsB r s o, pnD 2 x h m⟩ : M8) = ndC 2 V x r s o h m := by
  obtain ⟨hr, hm, ht⟩ := pnE_zero _ _ _ _ _ _ _ _ e
  have hV := tmB_six V x ht
  subst hV
  have hl := pnD_len 2 x h m
  have hck : I8.chk (⟨6, 136, 0, rsB r s o, pnD 2 x h m⟩ : M8) = 0 := by
    unfold I8.chk
    have h1 : I8.isV ((⟨6, 136, 0, rsB r s o, pnD 2 x h m⟩ : M8)).v = true := rfl
    have h2 : I8.okF (⟨6, 136, 0, rsB r s o, pnD 2 x h m⟩ : M8) = true := by
      unfold I8.okF
      have := rs_in r s o
      simp only [this]
      decide
    have h3 : ¬ 65515 < 8 + ((⟨6, 136, 0, rsB r s o, pnD 2 x h m⟩ : M8)).d.length := by show ¬ 65515 < 8 + (pnD 2 x h m).length; rw [hl]; cases h <;> decide
    rw [if_pos h1, if_pos h2, if_neg h3]
  have hk : mkD (⟨6, 136, 0, rsB r s o, pnD 2 x h m⟩ : M8) = 2 := by unfold mkD; rw [if_pos ⟨rfl, rfl⟩]; rfl
  have htg : tgE (pnD 2 x h m) = 0 := by
    unfold tgE
    rw [if_neg (by rw [hl]; cases h <;> decide), tmB_congr 6 (tgX (pnD 2 x h m)) x (fun i hi => pnD_x 2 x h m i hi), ht]
    rfl
  have hlk : ∃ mm, lkM (⟨6, 136, 0, rsB r s o, pnD 2 x h m⟩ : M8) = (mm, h, 0) ∧ ∀ i, i < 6 → mm i = m i := by
    unfold lkM
    rw [hk]
    cases h
    · refine ⟨fun _ => 0, lk_put_no 2 x m, fun i hi => ?_⟩
      exact ((same6_iff _ _).1 (hm rfl) i hi).symm
    · exact ⟨_, lk_put_yes 2 x m, fun i hi => mcX_opt 2 x m i hi⟩
  obtain ⟨mm, hlk, hmm⟩ := hlk
  have hpe : pdE (⟨6, 136, 0, rsB r s o, pnD 2 x h m⟩ : M8) = 0 := by
    unfold pdE
    rw [if_neg (by rw [hck]; decide), hk, if_pos (by rfl), if_neg (fun f => f htg), hlk]
  refine ⟨hck, hpe, ?_⟩
  unfold pdC
  rw [if_pos hpe]
  unfold ndM
  rw [hlk, hk]
  obtain ⟨b1, b2, b3⟩ := fB_rs r s o
  show ndC 2 6 (tgX (pnD 2 x h m)) (((2 : Int) == 2) && fB (rsB r s o) 2147483648) (((2 : Int) == 2) && fB (rsB r s o) 1073741824) (((2 : Int) == 2) && fB (rsB r s o) 536870912) h mm = _
  rw [b1, b2, b3]
  exact ndC_congr 2 6 _ _ _ _ _ h _ _ (fun i hi => pnD_x 2 x h m i hi) hmm
theorem parse_put (M : M8) (h256 : ∀ x ∈ M.d, x < 256) (e : pdE M = 0) : ∃ (k : Int) (r s o h : Bool) (m : Nat → Nat), (k = 1 ∨ k = 2) ∧ pdC M = ndC k 6 (tgX M.d) r s o h m ∧ pnE k 6 (tgX M.d) r s o h m = 0 ∧ (∀ i, m i < 256) ∧ (∀ i, tgX M.d i < 256) := by
  have e0 := e
  unfold pdE at e
  split at e
  · rename_i hc; exact absurd e (by omega)
  · split at e
    · rename_i hk
      split at e
      · rename_i ht; exact absurd e ht
      · rename_i ht
        have ht : tgE M.d = 0 := Decidable.byContradiction ht
        have h12 : mkD M = 1 ∨ mkD M = 2 := by simpa [isK] using hk
        have hok := lk_ok M.d (mkD M) h256 M.d.length 16 false (fun _ => 0) (fun _ => by show 0 < 256; omega) (fun _ => rfl)
        have htm : tmB 6 (tgX M.d) = true := by
          unfold tgE at ht
          split at ht
          · exact absurd ht (by decide)
          · split at ht
            · assumption
            · exact absurd ht (by decide)
        refine ⟨mkD M, _, _, _, (lkM M).2.1, (lkM M).1, h12, by unfold pdC; rw [if_pos e0]; rfl, ?_, hok.1, fun i => tgX_lt M.d h256 i⟩
        unfold pnE
        rw [if_neg, htm]
        · rfl
        · rintro (⟨h1, h2⟩ | ⟨h1, h2⟩)
          · apply h2
            rw [h1, show ((1 : Int) == 2) = false from rfl]
            simp only [Bool.false_and]
            decide
          · have := hok.2 h1
            rw [show (lkM M).1 = fun _ => 0 from this] at h2
            exact absurd h2 (by decide)
    · exact absurd e (by decide)
end Go.Proofs.YtijipfciimcnpaaDoor
