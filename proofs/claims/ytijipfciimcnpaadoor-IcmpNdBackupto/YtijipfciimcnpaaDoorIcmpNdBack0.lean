/-
  IcmpNdBack: what its walk wants.
-/
import Derived.Test.YtijipfciimcnpaaDoorI8Nei2
import Derived.Test.YtijipfciimcnpaaDoorI8Put2
namespace Go.Proofs.YtijipfciimcnpaaDoor
open Go.RowKit
open I8 (M8)

/-- PutND in one form -/
theorem putND_u (k V : Int) (x : Nat → Nat) (r s o h : Bool) (m : Nat → Nat) (w : World) (hx : ∀ i, i < 16 → x i < 256) (hm : ∀ i, i < 6 → m i < 256) (hd : Dis8 w) (hs : Spe8 w) :
    Calls Tryd.prog 9 #[.agg (ndC k V x r s o h m)] w fun e w' => Below w.heap.size w w' ∧ ∃ (er : Int) (M : M8) (da : Option Addr) (l : Nat), e = .returned (.tuple #[.agg (mC M da l l), .int .i64 er]) ∧ (er = 0 → MOk w' M da l l ∧ pdE M = 0 ∧ pdC M = ndC k V x r s o h m ∧ I8.chk M = 0) ∧ ((k = 1 ∨ k = 2) ∧ pnE k V x r s o h m = 0 → er = 0) := by
  cases hk : isK k
  · refine (putND_none k V x r s o h m w hx hm hd hs hk).mono ?_
    rintro e w' ⟨rfl, hb⟩
    refine ⟨hb, 1, m8z, none, 0, rfl, fun e => absurd e (by decide), fun e => ?_⟩
    have : isK k = true := by simp [isK, e.1]
    rw [hk] at this; cases this
  · have h' : k = 1 ∨ k = 2 := by simpa [isK] using hk
    rcases h' with rfl | rfl
    · refine (putND_1 V x r s o h m w hx hm hd hs).mono ?_
      rintro e w' ⟨hr, hb⟩
      rcases hr with ⟨hne, rfl⟩ | ⟨he, g, rfl, how⟩
      · exact ⟨hb, _, m8z, none, 0, rfl, fun e => absurd e hne, fun e => e.2⟩
      · obtain ⟨p1, p2, p3⟩ := put_parse_1 V x r s o h m he
        exact ⟨hb, 0, ⟨6, 135, 0, rsB r s o, pnD 1 x h m⟩, _, _, rfl, fun _ => ⟨put_ok (M := ⟨6, 135, 0, rsB r s o, pnD 1 x h m⟩) how (pnD_lt 1 (by decide) x h m hx hm) (by show (pnD 1 x h m).length ≤ 24; rw [pnD_len]; cases h <;> decide), p2, p3, p1⟩, fun _ => rfl⟩
    · refine (putND_2 V x r s o h m w hx hm hd hs).mono ?_
      rintro e w' ⟨hr, hb⟩
      rcases hr with ⟨hne, rfl⟩ | ⟨he, g, rfl, how⟩
      · exact ⟨hb, _, m8z, none, 0, rfl, fun e => absurd e hne, fun e => e.2⟩
      · obtain ⟨p1, p2, p3⟩ := put_parse_2 V x r s o h m he
        exact ⟨hb, 0, ⟨6, 136, 0, rsB r s o, pnD 2 x h m⟩, _, _, rfl, fun _ => ⟨put_ok (M := ⟨6, 136, 0, rsB r s o, pnD 2 x h m⟩) how (pnD_lt 2 (by decide) x h m hx hm) (by show (pnD 2 x h m).length ≤ 24; rw [pnD_len]; cases h <;> decide), p2, p3, p1⟩, fun _ => rfl⟩
/-- what a world keeps for the walk -/
structure NbS (w0 w : World) (B : Nat) (m : M8) (da : Option Addr) (n c : Nat) : Prop where
  dis : Dis8 w
  spe : Spe8 w
  mat : MAt w (B + 1) m da n c
  ok : MOk w m da n c
  bel : Below w0.heap.size w0 w
theorem NbS.old {w0 w w' : World} {B : Nat} {m : M8} {da : Option Addr} {n c : Nat} (h : NbS w0 w B m da n c) (hb : Below w.heap.size w w') : NbS w0 w' B m da n c := ⟨h.dis.old hb, h.spe.old hb, h.mat.below hb, h.ok.old hb, bthen h.bel hb⟩
theorem seg_ne_m8 {w : World} {O : Nat} {m : M8} {da : Option Addr} {n c : Nat} {va : Option Addr} {l : List Int} (h : MAt w O m da n c) (hs : Seg .u8 w va l) (z : Addr) (hl : l ≠ []) (hz : va = some z) : z.block ≠ O := by
  rcases hs with h0 | ⟨b, off, e, hc⟩
  · exact absurd h0 hl
  · rw [hz] at e
    have e' := Option.some.inj e
    subst e'
    intro hO
    have hO' : b = O := hO
    subst hO'
    have h1 := hc 0 (List.length_pos_iff.2 hl)
    rw [h.cell] at h1
    simp only [mC, Nat.add_zero] at h1
    match off, h1 with
    | 0, h1 => simp at h1
    | 1, h1 => simp at h1
    | 2, h1 => simp at h1
    | 3, h1 => simp at h1
    | 4, h1 => simp at h1
    | o + 5, h1 => simp at h1
theorem below_put {w w' : World} {X : Nat} {o : Obj} (hX : X = w.heap.size) (k : Ch (fun q => q = X) (w.alloc o) w') : Below w.heap.size w w' :=
  ((Below.refl _ _).alloc (Nat.le_refl _) o).trans (k.below (fun q e => by have e' : q = X := e; omega) (by simp))
theorem pdC_form (m : M8) : (pdC m).size = 28 ∧ (pdC m).all (·.oneCell') = true := by
  unfold pdC
  split
  · exact ⟨rfl, ndC_one _ _ _ _ _ _ _ _⟩
  · exact ⟨rfl, ndC_one _ _ _ _ _ _ _ _⟩
end Go.Proofs.YtijipfciimcnpaaDoor
