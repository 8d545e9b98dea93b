/-
  Layer 4: a printed prefix is read as it was.
-/
import Derived.Test.YtfeabifjnihooaaDoorAdY2
namespace Go.Proofs.YtfeabifjnihooaaDoor
open Go.RowKit

theorem same16_congr {a b c d : Nat → Nat} (h1 : ∀ i, i < 16 → a i = c i) (h2 : ∀ i, i < 16 → b i = d i) : same16 a b = same16 c d := by
  refine Bool.eq_iff_iff.2 ?_
  rw [same16_iff, same16_iff]
  exact ⟨fun k i hi => by rw [← h1 i hi, ← h2 i hi]; exact k i hi, fun k i hi => by rw [h1 i hi, h2 i hi]; exact k i hi⟩
theorem vld_congr {V : Int} {x y : Nat → Nat} (h : ∀ i, i < 16 → x i = y i) : vld V x = vld V y := by
  unfold vld
  rw [same16_congr (fun i hi => hdA_congr h 32 hi) h]
theorem vpE_congr {V n : Int} {x y : Nat → Nat} (h : ∀ i, i < 16 → x i = y i) : vpE ⟨V, x, n⟩ = vpE ⟨V, y, n⟩ := by
  unfold vpE mkE
  rw [vld_congr h, same16_congr (fun i hi => hdA_congr h n.toNat hi) h]
theorem idx_app : ∀ (A C : List Nat), (∀ c ∈ A, c < 256 ∧ c ≠ 47) → Lib.indexByte ((A ++ 47 :: C).map UInt8.ofNat) 47 = (A.length : Nat)
  | [], C, _ => rfl
  | a :: A, C, h => by
    have ih := idx_app A C (fun c hc => h c (List.mem_cons_of_mem _ hc))
    obtain ⟨h1, h2⟩ := h a (by simp)
    have hb : (UInt8.ofNat a == 47) = false := by
      rw [beq_eq_false_iff_ne]
      intro e
      have e3 : (UInt8.ofNat a).toNat = a := UInt8.toNat_ofNat_of_lt (by simpa using h1)
      rw [e] at e3
      exact h2 e3.symm
    show Lib.indexByte (UInt8.ofNat a :: (A ++ 47 :: C).map UInt8.ofNat) 47 = _
    unfold Lib.indexByte
    rw [hb, ih, if_neg (by decide), if_neg (by simp)]
    simp
theorem dcm_most {s : ByteArray} {p q most n : Nat} (h : dcm s p q 255 = (n : Int)) (hm : n ≤ most) : dcm s p q most = (n : Int) := by
  unfold dcm at h ⊢
  split at h
  · omega
  · rename_i h1
    rw [if_neg h1]
    split at h
    · omega
    · rw [if_neg (by omega), h]
theorem vp_bits {p : PV} (h : vpE p = 0) : p.n ≤ (bitV p.V : Int) := by
  have hm : mkE p.V p.x p.n = 0 := by
    unfold vpE at h
    split at h
    · assumption
    · exact h
  unfold mkE at hm
  split at hm
  · omega
  · split at hm
    · omega
    · omega
theorem pf_back {p : PV} (hv : vpE p = 0) (hx : ∀ i, i < 16 → p.x i < 256) : ∃ y, pPF (txB (prPF p)) = .inl ⟨p.V, y, p.n⟩ ∧ ∀ i, i < 16 → y i = p.x i := by
  have hn := vp_n hv
  have hb := vp_bits hv
  have hA := fun c hc => prIP_chr (V := p.V) hx c hc
  have hAl : ∀ c ∈ prIP p.V p.x, c < 256 := fun c hc => (hA c hc).1
  obtain ⟨y, hy, hyx⟩ := print_back (vp_vld hv) hx (txB_drp hAl)
  have h45 : (prIP p.V p.x).length ≤ 45 := by
    refine Nat.le_of_not_lt fun hgt => ?_
    unfold pIP at hy
    rw [if_pos (by rw [txB_size]; exact hgt)] at hy
    cases hy
  refine ⟨y, ?_, hyx⟩
  obtain ⟨m, hm⟩ : ∃ m : Nat, p.n = (m : Int) ∧ m ≤ 128 := ⟨p.n.toNat, by omega⟩
  have hl : (prPF p).length = (prIP p.V p.x).length + 1 + (dec3 m).length := by unfold prPF; rw [hm.1]; simp; omega
  have hd3 := dec3_hi m
  have hsz : (txB (prPF p)).size = (prIP p.V p.x).length + 1 + (dec3 m).length := by rw [txB_size, hl]
  have hk : slN47 (txB (prPF p)) = ((prIP p.V p.x).length : Nat) := by unfold slN47; rw [txB_data]; exact idx_app _ _ hA
  have hex : (txB (prPF p)).extract 0 (prIP p.V p.x).length = txB (prIP p.V p.x) := by
    apply ByteArray.ext
    apply Array.toList_inj.1
    rw [ByteArray.data_extract, Array.toList_extract, List.extract_eq_take_drop, txB_data, txB_data]
    unfold prPF
    simp
  have hdr : drp (txB (prPF p)) ((prIP p.V p.x).length + 1) = dec3 m ++ [] := by
    have h0 : drp (txB (prPF p)) 0 = prIP p.V p.x ++ 47 :: dec3 m := by rw [txB_drp (prPF_chr hv hx)]; unfold prPF; rw [hm.1]; rfl
    have h1 := drp_app _ h0
    rw [Nat.zero_add] at h1
    obtain ⟨_, _, h2⟩ := drp_cons h1
    rw [h2, List.append_nil]
  obtain ⟨e1, e2, e3⟩ := dec3_num (by omega) hdr (fun x r e => by cases e)
  have e4 : (prIP p.V p.x).length + 1 + (dec3 m).length = (txB (prPF p)).size := hsz.symm
  have e5 := dcm_most (most := bitV p.V) e3 (by omega)
  unfold pPF
  rw [if_neg (by rw [hsz]; omega), if_neg (by rw [hk]; omega), hk, Int.toNat_natCast, hex, hy]
  show pPF2 _ _ _ _ = _
  unfold pPF2
  rw [e1, if_neg (by omega), e5, if_neg (by omega), if_neg (by rw [e4]; simp), ← hm.1, vpE_congr hyx, if_neg (by rw [show (⟨p.V, p.x, p.n⟩ : PV) = p from rfl, hv]; simp)]
end Go.Proofs.YtfeabifjnihooaaDoor
