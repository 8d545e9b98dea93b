/-
  Layer 14: slices.SortFunc of a list of routes: the contract that sorted wants.
-/
import Derived.Test.YtdjbfhllialinaaDoorRtSf
namespace Go.Proofs.YtdjbfhllialinaaDoor
open Go.RowKit Go.Maps

theorem flat_get (L : List RV) (t : Nat) (h : t < L.length * 36) : (Go.Sort.flatK rcL 36 L.toArray)[t]! = ((rcs L)[t]?).getD default := by
  have hq : t / 36 < L.length := by omega
  have hm : t % 36 < 36 := Nat.mod_lt _ (by decide)
  rw [Go.Sort.get_flatK rcL 36 L.toArray t (by simpa using h)]
  have e1 : t / 36 * 36 + t % 36 = t := by omega
  have hs : L[t / 36]? = some L[t / 36] := List.getElem?_eq_getElem hq
  have e2 := rcs_get L (t / 36) _ hs (t % 36) hm
  rw [e1] at e2
  rw [e2]
  have e3 : L.toArray[t / 36]! = L[t / 36] := by simp [hq]
  rw [e3]
  show (rcL L[t / 36])[t % 36]! = ((rtC L[t / 36]).toList[t % 36]?).getD default
  rw [List.getElem!_eq_getElem?_getD]
  rfl
theorem rcs_some (L : List RV) (t : Nat) (h : t < L.length * 36) : ∃ u, (rcs L)[t]? = some u := ⟨_, List.getElem?_eq_getElem (by rw [rcs_len]; exact h)⟩
theorem RL.holds {A : World} {base g c : Nat} {L : List RV} (h : RL A base (.slice (some ⟨g, 0, none⟩) L.length c) L) : Go.Sort.HoldsK rcL 36 A g 0 L.toArray := by
  intro j hj
  rw [Go.Sort.size_flatK, List.size_toArray] at hj
  obtain ⟨u, hu⟩ := rcs_some L j hj
  rw [flat_get L j hj, hu]
  have hc := World.ownsRow.cells (show A.ownsRow base 29 36 (.slice (some ⟨g, 0, none⟩) L.length c) L.length (rcs L) from h) rfl j u hu
  rw [Addr.add_lit] at hc
  refine ⟨hc, ?_⟩
  rcases h.2 with ⟨e, _⟩ | ⟨g', cap, cur, e, hb, hh, hr⟩
  · cases e
  · simp only [Value.slice.injEq, Option.some.injEq, Addr.mk.injEq, and_true, true_and] at e
    obtain ⟨rfl, rfl⟩ := e
    simp [World.frozen?, hh]
theorem sort_block (A : World) (g n : Nat) (d : Array RV) (os : Array Obj) (k : Nat) (hk : k < A.heap.size) : (Go.Proofs.sortWorldK rcL 36 A g 0 n d os).heap[k]? = if g = k then (A.heap[k]?).map (Go.Sort.onCells (Go.Sort.putCells id 0 (Go.Sort.flatK rcL 36 d))) else A.heap[k]? := by
  unfold Go.Proofs.sortWorldK
  rw [Go.Sort.heap_grow_old _ _ (by rw [Go.Sort.size_putRowK]; exact hk)]
  show (A.heap.modify g (Go.Sort.onCells (Go.Sort.putCells id 0 (Go.Sort.flatK rcL 36 d))))[k]? = _
  rw [Array.getElem?_modify]
theorem sorts : SortsK := by
  intro A base v L hRL hv hl
  obtain ⟨g, c, rfl⟩ := hv
  have hblk : g < A.heap.size := (hRL.cells g rfl).2.1
  have eg : ∀ args w, (callFunc 26 args).run Tryd.prog w = .ok (.enter 26 args) w := enters_of Tryd.func26 (by kernel_rfl) rfl
  have hcon := Go.Proofs.AnyQ.slices_SortFunc sortRt 36 Tryd.isAgg29 Tryd.sizeOf29 rcL rcL_len (fun x => rtC_one x) ordV ord_swo 26 #[] g 0 c L.toArray A eg (order_lays g 0 L.toArray.size A) (RL.holds hRL) hblk (by rw [List.size_toArray]; omega)
  change Calls Tryd.prog 25 #[.slice (some ⟨g, 0, none⟩) L.toArray.size c, .func (.func 26) #[] #[]] A _ at hcon
  rw [List.size_toArray] at hcon
  refine hcon.mono ?_
  rintro e w' ⟨rfl, d', n, os, hp, hs, rfl⟩
  obtain ⟨hp1x, _, hp3⟩ := hp
  have hp1 : d'.size = L.length := hp1x.trans (by simp)
  refine ⟨rfl, d'.toList, ?_, ?_, ?_, ?_⟩
  · have e1 : d'.extract 0 L.length = d' := by rw [← hp1, Array.extract_size]
    have e2 : L.toArray.extract 0 L.length = L.toArray := by simp
    rw [e1, e2] at hp3
    exact hp3
  · rw [List.pairwise_iff_getElem]
    intro i j hi hj hij
    have h1 := hs i j (Nat.zero_le _) hij (by simpa [hp1] using hj)
    unfold Go.Proofs.ltOf at h1
    rw [decide_eq_false_iff_not] at h1
    rw [Array.length_toList] at hi hj
    rw [getElem!_pos d' i hi, getElem!_pos d' j hj] at h1
    rw [Array.getElem_toList, Array.getElem_toList]
    omega
  · have hH := Go.Proofs.holdsK_sortWorldK_c rcL 36 A g 0 L.toArray d' n os (RL.holds hRL) hblk (by rw [hp1]; simp)
    have hlen : d'.toList.length = L.length := by rw [Array.length_toList, hp1]
    rcases hRL.2 with ⟨e, _⟩ | ⟨g', cap, cur, e, hb, hh, hnc, hcm, hcs, ht⟩
    · cases e
    · simp only [Value.slice.injEq, Option.some.injEq, Addr.mk.injEq, and_true, true_and] at e
      obtain ⟨rfl, rfl⟩ := e
      have hnew : (Go.Proofs.sortWorldK rcL 36 A g 0 n d' os).heap[g]? = some (.cells (Go.Sort.putCells id 0 (Go.Sort.flatK rcL 36 d') cur) 29 (0, 0)) := by
        rw [sort_block A g n d' os g hblk, if_pos rfl, hh]
        rfl
      have hcs' : (Go.Sort.putCells id 0 (Go.Sort.flatK rcL 36 d') cur).size = c * 36 := by
        unfold Go.Sort.putCells
        rw [Array.size_mapIdx]
        exact hcs
      refine ⟨by rw [hlen, rcs_len, hlen], .inr ⟨g, c, _, by rw [hlen], hb, hnew, by rw [hlen]; exact hnc, hcm, hcs', ?_⟩⟩
      apply List.ext_getElem?
      intro j
      rw [List.getElem?_take]
      by_cases hj : j < d'.toList.length * 36
      · rw [if_pos hj]
        have h1 := (hH j (by rw [Go.Sort.size_flatK]; simpa using hj)).1
        have h2 := flat_get d'.toList j hj
        rw [Array.toArray_toList] at h2
        obtain ⟨u, hu⟩ := rcs_some d'.toList j hj
        rw [hu] at h2 ⊢
        rw [h2] at h1
        simp only [World.cell?, hnew, Nat.zero_add, id, Option.getD_some] at h1
        rw [Array.getElem?_toList]
        exact h1
      · rw [if_neg hj, List.getElem?_eq_none (by rw [rcs_len]; omega)]
  · refine ⟨rfl, rfl, rfl, Go.Proofs.size_sortWorldK_c rcL 36 A g 0 n d' os, fun k hk hS => ?_⟩
    rw [sort_block A g n d' os k hk, if_neg (fun e => hS (by rw [e]; rfl))]
end Go.Proofs.YtdjbfhllialinaaDoor
