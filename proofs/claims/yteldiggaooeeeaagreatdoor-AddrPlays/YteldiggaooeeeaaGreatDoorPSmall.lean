/-
  Small laws that no package's function stands in: strings of bytes, rows of one's own.
-/
import Derived.Test.YteldiggaooeeeaaGreatDoorBase
import Derived.Laws.OwnMore
import Derived.Laws.AppendOwn
namespace Go.Proofs.YteldiggaooeeeaaGreatDoor
open Go.RowKit

def strOf (l : List Nat) : ByteArray := ⟨(l.map UInt8.ofNat).toArray⟩
theorem strOf_eq (a b : List Nat) (ha : ∀ x ∈ a, x < 256) (hb : ∀ x ∈ b, x < 256) (h : strOf a = strOf b) : a = b := by
  have h1 : (a.map UInt8.ofNat).toArray = (b.map UInt8.ofNat).toArray := congrArg ByteArray.data h
  have h2 : a.map UInt8.ofNat = b.map UInt8.ofNat := by simpa using h1
  have e : ∀ l : List Nat, (∀ x ∈ l, x < 256) → (l.map UInt8.ofNat).map UInt8.toNat = l := by
    intro l hl
    rw [List.map_map]
    conv => rhs; rw [← List.map_id l]
    apply List.map_congr_left
    intro x hx
    have := hl x hx
    simp [Nat.mod_eq_of_lt this]
  rw [← e a ha, ← e b hb, h2]

theorem conv_any (w : World) (a : Option Addr) (cap : Nat) (l : List Nat) (hs : Seg .u8 w a (toI l)) (h256 : ∀ x ∈ l, x < 256) :
    (convert 50 9 (.slice a l.length cap)).run Tryz.prog w = .ok (.string (strOf l)) w := by
  rcases hs with hnil | ⟨b, off, rfl, hc⟩
  · have h0 : l = [] := by cases l with | nil => rfl | cons x l => simp [toI] at hnil
    subst h0
    cases a with
    | none => rw [run_convert_bytes_string w 50 9 5 none _ cap Tryz.underlying50 Tryz.underlying5 Tryz.underlying9]; rfl
    | some ad => exact run_convert_bytes_back w 50 9 5 ad cap [] Tryz.underlying50 Tryz.underlying5 Tryz.underlying9 (by intro j hj; simp at hj)
  · have := run_convert_bytes_back (P := Tryz.prog) w 50 9 5 ⟨b, off, none⟩ cap (l.map UInt8.ofNat) Tryz.underlying50 Tryz.underlying5 Tryz.underlying9 (by
      intro j hj
      have hj' : j < l.length := by simpa using hj
      have h := hc j (by rw [toI_len]; exact hj')
      rw [toI_getD] at h
      have hl := h256 l[j] (List.getElem_mem _)
      simp [List.getD, hj'] at h
      rw [Addr.add_lit, h]
      simp [Nat.mod_eq_of_lt hl])
    rw [List.length_map] at this
    exact this

theorem owns_seg {w : World} {base : Nat} {e : TypeId} {v : Value} {n : Nat} {k : IntKind} {zs : List Int} (h : w.ownsRow base e 1 v n (zs.map (Value.int k))) :
    ∃ a c, v = .slice a n c ∧ Seg k w a zs ∧ zs.length = n ∧ n ≤ c ∧ c ≤ maxLen := by
  have hl : zs.length = n := by have := h.1; simpa using this
  rcases h.2 with ⟨rfl, rfl⟩ | ⟨g, cap, cur, rfl, hg, hh, hnc, hcm, r⟩
  · exact ⟨none, 0, rfl, .inl (List.eq_nil_of_length_eq_zero hl), hl, Nat.le_refl _, Nat.zero_le _⟩
  · refine ⟨_, _, rfl, .inr ⟨g, 0, rfl, ?_⟩, hl, hnc, hcm⟩
    intro i hi
    have := h.cellAt i (by omega)
    rw [Nat.zero_add, this]
    simp [List.getD, hi]
theorem toI_map (k : IntKind) (l : List Nat) : l.map (fun x : Nat => Value.int k (x : Int)) = (toI l).map (Value.int k) := by simp [toI]
theorem seg_new3 (w : World) (k : IntKind) (t : TypeId) (zs : List Int) : Seg k (w.alloc (.cells (zs.map (Value.int k)).toArray t)) (some ⟨w.heap.size, 0, none⟩) zs := by
  refine .inr ⟨_, _, rfl, ?_⟩
  intro i hi
  rw [Nat.zero_add, World.cell?_alloc_at _ _ _ _ rfl]
  simp [List.getD, hi]

end Go.Proofs.YteldiggaooeeeaaGreatDoor
