/-
  takeLink: the options to the last; the first of the kind counts.
-/
import Derived.Test.YtijipfciimcnpaaDoorI8Take2
namespace Go.Proofs.YtijipfciimcnpaaDoor
open Go.RowKit

def mcX (d : List Nat) (p : Nat) : Nat → Nat := tgX ((d.drop (p + 2)).take 6)
def lk (d : List Nat) (l : Int) : Nat → Nat → Bool → (Nat → Nat) → (Nat → Nat) × Bool × Int
  | 0, _, h, m => (m, h, 0)
  | f + 1, p, h, m => if p < d.length then (if OpOk8 d p then (if ((d.getD p 0 : Nat) : Int) = l then (if opU d p = 1 then (if h then lk d l f (p + 8 * opU d p) h m else lk d l f (p + 8 * opU d p) true (mcX d p)) else (fun _ => 0, false, 85)) else lk d l f (p + 8 * opU d p) h m) else (fun _ => 0, false, 85)) else (m, h, 0)
theorem lk_end (d : List Nat) (l : Int) (f p : Nat) (h : Bool) (m : Nat → Nat) (hp : ¬ p < d.length) : lk d l f p h m = (m, h, 0) := by
  cases f
  · rfl
  · rw [lk, if_neg hp]
theorem lk_bad (d : List Nat) (l : Int) (f p : Nat) (h : Bool) (m : Nat → Nat) (hp : p < d.length) (hf : d.length - p ≤ f) (ho : ¬ OpOk8 d p) : lk d l f p h m = (fun _ => 0, false, 85) := by
  obtain ⟨g, rfl⟩ : ∃ g, f = g + 1 := ⟨f - 1, by omega⟩
  rw [lk, if_pos hp, if_neg ho]
theorem lk_other (d : List Nat) (l : Int) (f p : Nat) (h : Bool) (m : Nat → Nat) (hp : p < d.length) (hf : d.length - p ≤ f) (ho : OpOk8 d p) (hl : ((d.getD p 0 : Nat) : Int) ≠ l) : ∃ g, d.length - (p + 8 * opU d p) ≤ g ∧ lk d l f p h m = lk d l g (p + 8 * opU d p) h m := by
  obtain ⟨g, rfl⟩ : ∃ g, f = g + 1 := ⟨f - 1, by omega⟩
  have := ho.2.1
  refine ⟨g, by omega, ?_⟩
  rw [lk, if_pos hp, if_pos ho, if_neg hl]
theorem lk_len (d : List Nat) (l : Int) (f p : Nat) (h : Bool) (m : Nat → Nat) (hp : p < d.length) (hf : d.length - p ≤ f) (ho : OpOk8 d p) (hl : ((d.getD p 0 : Nat) : Int) = l) (hu : opU d p ≠ 1) : lk d l f p h m = (fun _ => 0, false, 85) := by
  obtain ⟨g, rfl⟩ : ∃ g, f = g + 1 := ⟨f - 1, by omega⟩
  rw [lk, if_pos hp, if_pos ho, if_pos hl, if_neg hu]
theorem lk_has (d : List Nat) (l : Int) (f p : Nat) (m : Nat → Nat) (hp : p < d.length) (hf : d.length - p ≤ f) (ho : OpOk8 d p) (hl : ((d.getD p 0 : Nat) : Int) = l) (hu : opU d p = 1) : ∃ g, d.length - (p + 8 * opU d p) ≤ g ∧ lk d l f p true m = lk d l g (p + 8 * opU d p) true m := by
  obtain ⟨g, rfl⟩ : ∃ g, f = g + 1 := ⟨f - 1, by omega⟩
  refine ⟨g, by omega, ?_⟩
  rw [lk, if_pos hp, if_pos ho, if_pos hl, if_pos hu, if_pos rfl]
theorem lk_new (d : List Nat) (l : Int) (f p : Nat) (m : Nat → Nat) (hp : p < d.length) (hf : d.length - p ≤ f) (ho : OpOk8 d p) (hl : ((d.getD p 0 : Nat) : Int) = l) (hu : opU d p = 1) : ∃ g, d.length - (p + 8 * opU d p) ≤ g ∧ lk d l f p false m = lk d l g (p + 8 * opU d p) true (mcX d p) := by
  obtain ⟨g, rfl⟩ : ∃ g, f = g + 1 := ⟨f - 1, by omega⟩
  refine ⟨g, by omega, ?_⟩
  rw [lk, if_pos hp, if_pos ho, if_pos hl, if_pos hu, if_neg (by simp)]
/-- what a link address that was read is: none, and no bytes; or bytes -/
theorem lk_ok (d : List Nat) (l : Int) (h256 : ∀ x ∈ d, x < 256) : ∀ (f p : Nat) (h : Bool) (m : Nat → Nat), (∀ i, m i < 256) → (h = false → m = fun _ => 0) → (∀ i, (lk d l f p h m).1 i < 256) ∧ ((lk d l f p h m).2.1 = false → (lk d l f p h m).1 = fun _ => 0)
  | 0, _, _, _, h1, h2 => ⟨h1, h2⟩
  | f + 1, p, h, m, h1, h2 => by
    have hz : (∀ i, (fun _ : Nat => (0 : Nat)) i < 256) := fun _ => by show 0 < 256; omega
    have hx : ∀ i, mcX d p i < 256 := fun i => tgX_lt _ (fun x hx => h256 x (List.mem_of_mem_drop (List.mem_of_mem_take hx))) i
    rw [lk]
    repeat' split
    · exact lk_ok d l h256 f _ h m h1 h2
    · exact lk_ok d l h256 f _ true _ hx (fun e => by cases e)
    · exact ⟨hz, fun _ => rfl⟩
    · exact lk_ok d l h256 f _ h m h1 h2
    · exact ⟨hz, fun _ => rfl⟩
    · exact ⟨h1, h2⟩
theorem mac_splice (f : Nat → Nat) : ∀ l : List Nat, l.length = 6 → splice (macC f).toList 0 ((toI l).map (Value.int .u8)) = (macC (tgX l)).toList
  | [_, _, _, _, _, _], _ => rfl
theorem results_mac_tt {fn : Func} {p u v : Tmp} (h : fn.results = #[.cell p 26, .tmp u, .tmp v]) (tmps : Array Value) (w : World) (O : Nat) (x : Nat → Nat) (hp : tmps.getD p undef = .pointer (some ⟨O, 0, none⟩)) (hb : McAt w O x) :
    (results fn tmps).run Tryd.prog w = .ok (.tuple #[.agg (macC x), tmps.getD u undef, tmps.getD v undef]) w := by
  have hp' : tmps[p]?.getD undef = .pointer (some ⟨O, 0, none⟩) := by simpa using hp
  simp [results, h, hp', asAddr, run_loadVar_row w O _ 26 (macC x) _ _ hb Tryd.underlying26 rfl Tryd.sizeMac]
def curP (w : World) (B : Nat) : Nat := match w.cell? ⟨B, 1, none⟩ with
  | some v => (intOf v).toNat
  | none => 0
theorem Cur.p {w : World} {B : Nat} {a : Option Addr} {len p : Nat} (h : Cur w B a len p) : curP w B = p := by
  unfold curP
  rw [h.c1]
  simp [intOf]
end Go.Proofs.YtijipfciimcnpaaDoor
