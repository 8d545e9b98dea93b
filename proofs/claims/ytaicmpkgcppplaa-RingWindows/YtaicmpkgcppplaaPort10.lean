/-
  The port: Places.
-/
import Derived.Test.YtaicmpkgcppplaaPort9
namespace Go.Proofs.Ytaicmpkgcppplaa
open Go.RowKit

set_option maxRecDepth 100000 in
set_option maxHeartbeats 800000 in
theorem Places_any (w : World) (P gb gf gr gt : Nat) (s : PS) (h : PortAt w P gb gf gr gt s) :
    Calls Try.prog 24 #[.pointer (some ⟨P, 0, none⟩)] w fun e w' => ∃ g, e = .returned (.slice (some ⟨g, 0, none⟩) s.pool s.pool) ∧
      w'.ownsRow w.heap.size 3 1 (.slice (some ⟨g, 0, none⟩) s.pool s.pool) s.pool (nV ((List.range s.pool).map s.pl)) ∧ Below w.heap.size w w' := by
  obtain ⟨i0, hii, hz0, hz1, hz2⟩ := info_parts Try.infoInt
  have hB := h.cB
  have hp2 := h.p2
  have hPl := h.Pl
  have HP : Hid _ := h
  obtain ⟨N, hN⟩ : ∃ N, N = s.pool := ⟨_, rfl⟩
  have HN : Hid (N = s.pool) := hN
  rw [← hN] at hB hp2 ⊢
  clear h hN
  go_enter Try.func24, Try.ntmps24
  go_wp2_with (first | (at_make; refine wpList_make_full _ rfl _ _ 55 rfl w.heap.size 3 i0 (.int .i64 0) 1 Try.underlying55 hii hz0 hz1 .i64 .i64 _ _ N rfl rfl rfl rfl (by rw [hz2]; omega) (by unfold maxLen; omega) (Nat.le_refl _) ?_))
  intro w1 hown hgr
  rw [toList_madeCells_one] at hown
  have hb1 : Below w.heap.size w w1 := (Below.refl _ _).grown hgr (Nat.le_refl _) (by intro k hk; cases hk)
  obtain ⟨g, hg⟩ : ∃ g, g = w.heap.size := ⟨_, rfl⟩
  have hgw : w.heap.size ≤ g := by omega
  have hown' : w1.ownsRow w.heap.size 3 1 (.slice (some ⟨g, 0, none⟩) N N) N (List.replicate N (.int .i64 0)) := by rw [hg]; exact hown
  rw [← hg]
  have hB1 : w1.cell? ⟨P, 0, none⟩ = some (.slice (some ⟨gb, 0, none⟩) N N) := (hb1.cell hPl).trans hB
  clear hown hgr hg
  go_wp2
  go_loopw [16] (fun ix wr => ∃ k : Nat, k ≤ N ∧ ix = .int .i64 k ∧ wr.ownsRow w.heap.size 3 1 (.slice (some ⟨g, 0, none⟩) N N) N (nV ((List.range k).map s.pl ++ List.replicate (N - k) 0)) ∧ Below w.heap.size w wr) (fun ix _ => N - (intOf ix).toNat)
  case atStart => exact ⟨0, Nat.zero_le _, rfl, by simpa [nV] using hown', hb1⟩
  case round =>
    obtain ⟨k, hk, rfl, ho, hbel⟩ := hrel
    have HO : Hid _ := ho
    by_cases hlt : k < N
    · have hc : ∃ z, wr.cell? ⟨g, k, none⟩ = some z := by
        have hxl := ho.1
        have := ho.cellAt k (by omega)
        rw [List.getElem?_eq_getElem (by omega)] at this
        exact ⟨_, this⟩
      obtain ⟨z, hz⟩ := hc
      have hfz := ho.frozenAt k
      have hr := HP.out.below hbel
      have hBr := hr.cB
      rw [← HN.out] at hBr
      have cr := hr.b0 k (by have := HN.out; omega)
      obtain ⟨hst, hgr⟩ := ho.stored k (.int .i64 (s.pl k : Int))
      have hbel2 : Below w.heap.size w (wr.setCell ⟨g, k, none⟩ (.int .i64 (s.pl k : Int))) := hbel.grown hgr hbel.size (fun j hj => by simp at hj; omega)
      have he : (nV ((List.range k).map s.pl ++ List.replicate (N - k) 0)).set k (.int .i64 (s.pl k : Int)) = nV ((List.range (k + 1)).map s.pl ++ List.replicate (N - (k + 1)) 0) := by
        rw [List.range_succ, show N - k = (N - (k + 1)) + 1 from by omega, List.replicate_succ]
        simp [nV]
      rw [he] at hst
      have HST : Hid _ := hst
      clear hgr hst ho he hr
      go_wp2
      go_roundw
      case rel => exact ⟨k + 1, by omega, by go_num, HST.out, hbel2⟩
      case measure => simp [intOf]; omega
    · obtain rfl : k = N := by omega
      clear ho
      go_wp2
      go_ret
      refine ⟨g, rfl, ?_, hbel⟩
      have e : (List.range k).map s.pl ++ List.replicate (k - k) 0 = (List.range k).map s.pl := by simp
      rw [← e]
      exact HO.out
end Go.Proofs.Ytaicmpkgcppplaa
