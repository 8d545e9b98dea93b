/-
  Layer 20, captures: the harness' unmarked.
-/
import Derived.Test.YtpdfepnifjolkaaDCA
namespace Go.Proofs.Ytpdfepnifjolkaa
open Go.RowKit Go.ChangeShapes Go.WideShapes

theorem getD_x70 (d : List Nat) (j : Nat) (h1 : d.length ≤ j) (h2 : j < d.length + 70) : (d ++ x70).getD j 0 = 109 := by
  rw [List.getD, List.getElem?_append_right h1]
  unfold x70
  rw [List.getElem?_replicate, if_pos (by omega)]
  rfl
set_option maxHeartbeats 1600000 in
set_option maxRecDepth 100000 in
theorem unmarked_any (w : World) (base : Nat) (va la : Option Addr) (n vc lc : Nat) (E : List FX) (L : List CE) (hE : CapsX w base (.slice va n vc) E) (hx : ∀ e ∈ E, e.2 = x70) (hs : CapsIn w la L) (hn : L.length = n) (hm : E.map (fun e => cvt e.1) = L.map cvt) (hn2 : n ≤ 2000000) (hdl : ∀ c ∈ L, c.d.length ≤ 2000000) : Calls Try.prog 12 #[.slice va n vc, .slice la n lc] w fun e w' => e = .returned (.bool true) ∧ Below w.heap.size w w' := by
  have h256 : ∀ c ∈ L, ∀ x ∈ c.d, x < 256 := fun c hc => by
    obtain ⟨i, hi⟩ := List.getElem?_of_mem hc
    exact (ListG.at hs i c hi).1.2
  have hEl : E.length = n := by have h1 := congrArg List.length hm; rw [List.length_map, List.length_map] at h1; omega
  have QS : Hid (Calls Try.prog 8 #[.slice va n vc, .slice la n lc] w fun e w' => e = .returned (.bool true) ∧ Below w.heap.size w w') := by
    obtain ⟨xa, xc, hx2, hxi⟩ := hE.inn (fun e he x hxx => by
      obtain ⟨i, hi⟩ := List.getElem?_of_mem he
      have hil : i < L.length := by rw [hn, ← hEl]; exact (List.getElem?_eq_some_iff.1 hi).1
      obtain ⟨e2, he2, hc2⟩ := cvt_at hm (List.getElem?_eq_getElem hil)
      rw [hi, Option.some.injEq] at he2
      subst he2
      have h3 : e.1.d = (L[i]).d := congrArg (fun c => c.2.2.2) hc2
      rw [h3] at hxx
      exact h256 _ (List.getElem_mem hil) x hxx)
    simp only [Value.slice.injEq] at hx2
    rw [← hx2.1] at hxi
    exact same_true w va la n vc lc (E.map Prod.fst) L hxi hs (by rw [List.length_map]; exact hEl) (by rw [List.map_map]; exact hm) (by omega)
  have HS : Hid (CapsX w base (.slice va n vc) E ∧ CapsIn w la L ∧ L.length = n ∧ E.map (fun e => cvt e.1) = L.map cvt ∧ (∀ c ∈ L, c.d.length ≤ 2000000) ∧ ∀ e ∈ E, e.2 = x70) := ⟨hE, hs, hn, hm, hdl, hx⟩
  clear hE hs hn hm hdl hx h256 hEl
  go_enter Try.func12, Try.ntmps12
  go_wp2_with fail
  refine Calls.mono QS.out ?_
  rintro e w1 ⟨rfl, b1⟩
  clear QS
  have HB : Hid (Below w.heap.size w w1) := b1
  clear b1
  go_wp2_with fail
  go_loopw [5] (fun ix wr => ∃ k : Nat, ix = .int .i64 (k : Nat) ∧ k ≤ n ∧ w1 = wr) (fun ix _ => n - (intOf ix).toNat)
  case atStart => exact ⟨0, rfl, Nat.zero_le _, rfl⟩
  case round =>
    obtain ⟨k, rfl, hk, rfl⟩ := hrel
    by_cases hin : k < n
    · have p1 : decide ((k : Int) < (n : Int)) = true := decide_eq_true (by omega)
      have p2 : decide (k < n) = true := decide_eq_true hin
      have i0 : (0 : Int) ≤ (k : Int) := by omega
      have i1 : (k : Int) < (n : Int) := by omega
      have i2 : ((k : Int)).toNat = k := by omega
      have wk1 : IntKind.i64.wrap ((k : Int) + 1) = (k : Int) + 1 := i64_s _ (by omega) (by omega)
      obtain ⟨c, hc⟩ : ∃ c, L[k]? = some c := ⟨_, List.getElem?_eq_getElem (by rw [HS.out.2.2.1]; exact hin)⟩
      obtain ⟨e, he, hec⟩ := cvt_at HS.out.2.2.2.1 hc
      obtain ⟨⟨_, _⟩, b, off, rfl, hlt, hcell⟩ := ListG.at (HS.out.2.1.old HB.out) k c hc
      have hE1 := HS.out.1.below HB.out
      obtain ⟨g, cap, hv, _, _, hgc, _⟩ := hE1.at he
      simp only [Value.slice.injEq] at hv
      obtain ⟨rfl, hnE, _⟩ := hv
      obtain ⟨m, hm⟩ : ∃ m, c.d.length = m := ⟨_, rfl⟩
      have hmb : m ≤ 2000000 := by rw [← hm]; exact HS.out.2.2.2.2.1 c (List.mem_of_getElem? hc)
      have hde : e.1.d = c.d := congrArg (fun c => c.2.2.2) hec
      have c3 : w1.cell? ⟨b, off + k * 4 + 3, none⟩ = some (.slice c.a m c.cap) := by rw [hcell 3 (by decide), ← hm]; rfl
      have d3 : w1.cell? ⟨g, k * 4 + 3, none⟩ = some (.slice e.1.a m e.1.cap) := by rw [hgc 3 (by decide), ← hm, ← hde]; rfl
      have hx := HS.out.2.2.2.2.2 e (List.mem_of_getElem? he)
      have ho := hE1.d k e he
      unfold fxV at ho
      rw [hx, x70_len, hde, hm] at ho
      have ho2 := ho
      unfold OwnB at ho2
      obtain ⟨fa, fc, hf, hfs, _, hfc, _⟩ := owns_seg ho2
      simp only [Value.slice.injEq, true_and] at hf
      obtain ⟨hf1, hf2⟩ := hf
      rw [← hf1] at hfs
      rw [← hf2] at hfc
      obtain ⟨eb, eo, heb, hcc⟩ := seg_at hfs 0 (by rw [List.length_append, x70_len]; omega)
      rw [heb] at d3
      have HCC : Hid (∀ j, m ≤ j → j < m + 70 → w1.cell? ⟨eb, eo + j, none⟩ = some (.int .u8 109)) := fun j h1 h2 => by
        have h3 := hcc j (by rw [List.length_append, x70_len, hm]; exact h2)
        rw [getD_x70 c.d j (by rw [hm]; exact h1) (by rw [hm]; exact h2)] at h3
        exact h3
      obtain ⟨ecap, hecap⟩ : ∃ x, e.1.cap = x := ⟨_, rfl⟩
      rw [hecap] at d3 hfc
      clear hcell hgc ho ho2 hfs hcc hf1 hf2 heb hec hde hx hc he hnE hE1 hlt hm
      have s0 : IntKind.i64.wrap ((m : Int) + 70) = (m : Int) + 70 := i64_s _ (by omega) (by omega)
      have s1 : (0 : Int) ≤ (m : Int) + 70 := by omega
      have s2 : (m : Int) + 70 ≤ (ecap : Int) := by omega
      have s3 : ((m : Int) + 70).toNat = m + 70 := by omega
      clear hecap
      go_upto_region 8 with fail
      clear c3 d3
      go_wp2_with fail
      go_loopw [8] (fun jx wr => ∃ j : Nat, jx = .int .i64 (j : Nat) ∧ m ≤ j ∧ j ≤ m + 70 ∧ w1 = wr) (fun jx _ => m + 70 - (intOf jx).toNat)
      case atStart => exact ⟨m, rfl, Nat.le_refl _, by omega, rfl⟩
      case round =>
        obtain ⟨j, rfl, hj1, hj2, rfl⟩ := hrel
        by_cases hj : j < m + 70
        · have r1 : decide ((j : Int) < (m : Int) + 70) = true := decide_eq_true (by omega)
          have r2 : decide (j < m + 70) = true := decide_eq_true hj
          have r3 : IntKind.i64.wrap ((j : Int) + 1) = (j : Int) + 1 := i64_s _ (by omega) (by omega)
          have r4 : (0 : Int) ≤ (j : Int) := by omega
          have r5 : (j : Int) < (m : Int) + 70 := by omega
          have r6 : ((j : Int)).toNat = j := by omega
          have cj := HCC.out j hj1 hj
          go_wp2
          go_roundw
          case rel => exact ⟨j + 1, by go_num, by omega, by omega, trivial⟩
          case measure => simp [intOf]; omega
        · have r1 : decide ((j : Int) < (m : Int) + 70) = false := decide_eq_false (by omega)
          have r2 : decide (j < m + 70) = false := decide_eq_false hj
          go_wp2
          go_roundw
          case rel => exact ⟨k + 1, by go_num, by omega, trivial⟩
          case measure => simp [intOf]; omega
    · have p1 : decide ((k : Int) < (n : Int)) = false := decide_eq_false (by omega)
      have p2 : decide (k < n) = false := decide_eq_false hin
      clear hin
      go_wp2
      go_ret
      exact ⟨rfl, HB.out⟩
end Go.Proofs.Ytpdfepnifjolkaa
