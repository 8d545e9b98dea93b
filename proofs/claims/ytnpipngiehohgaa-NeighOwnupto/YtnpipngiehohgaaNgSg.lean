/-
  Layer 15: slices.SortFunc of a list of keys.
-/
import Derived.Test.YtnpipngiehohgaaNgSf
namespace Go.Proofs.Ytnpipngiehohgaa
open Go.RowKit Go.Maps

def SortsK : Prop := ∀ (A : World) (base : Nat) (v : Value) (L : List KV), KL A base v L → (∃ g c, v = .slice (some ⟨g, 0, none⟩) L.length c) → L.length ≤ 1024 → Calls Try.prog 54 #[v, .func (.func 55) #[] #[]] A fun e w' => e = .returned (.tuple #[]) ∧ ∃ L', L'.Perm L ∧ L'.Pairwise (fun a b => 0 ≤ ordV b a) ∧ KL w' base v L' ∧ Ch (fun q => v.ownBlock = some q) A w'
theorem flat_get (L : List KV) (t : Nat) (h : t < L.length * 18) : (Go.Sort.flatK kcL 18 L.toArray)[t]! = ((kcs L)[t]?).getD default := by
  have hq : t / 18 < L.length := by omega
  have hm : t % 18 < 18 := Nat.mod_lt _ (by decide)
  rw [Go.Sort.get_flatK kcL 18 L.toArray t (by simpa using h)]
  have e1 : t / 18 * 18 + t % 18 = t := by omega
  have hs : L[t / 18]? = some L[t / 18] := List.getElem?_eq_getElem hq
  have e2 := kcs_get L (t / 18) _ hs (t % 18) hm
  rw [e1] at e2
  rw [e2]
  have e3 : L.toArray[t / 18]! = L[t / 18] := by simp [hq]
  rw [e3]
  show (kcL L[t / 18])[t % 18]! = ((kC L[t / 18]).toList[t % 18]?).getD default
  rw [List.getElem!_eq_getElem?_getD]
  rfl
theorem kcs_some (L : List KV) (t : Nat) (h : t < L.length * 18) : ∃ u, (kcs L)[t]? = some u := ⟨_, List.getElem?_eq_getElem (by rw [kcs_len]; exact h)⟩
theorem KL.holds {A : World} {base g c : Nat} {L : List KV} (h : KL A base (.slice (some ⟨g, 0, none⟩) L.length c) L) : Go.Sort.HoldsK kcL 18 A g 0 L.toArray := by
  intro j hj
  rw [Go.Sort.size_flatK, List.size_toArray] at hj
  obtain ⟨u, hu⟩ := kcs_some L j hj
  rw [flat_get L j hj, hu]
  have hc := World.ownsRow.cells (show A.ownsRow base 98 18 (.slice (some ⟨g, 0, none⟩) L.length c) L.length (kcs L) from h) rfl j u hu
  rw [Addr.add_lit] at hc
  refine ⟨hc, ?_⟩
  rcases h.2 with ⟨e, _⟩ | ⟨g', cap, cur, e, hb, hh, hr⟩
  · cases e
  · simp only [Value.slice.injEq, Option.some.injEq, Addr.mk.injEq, and_true, true_and] at e
    obtain ⟨rfl, rfl⟩ := e
    simp [World.frozen?, hh]
theorem sort_block (A : World) (g n : Nat) (d : Array KV) (os : Array Obj) (k : Nat) (hk : k < A.heap.size) : (Go.Proofs.sortWorldK kcL 18 A g 0 n d os).heap[k]? = if g = k then (A.heap[k]?).map (Go.Sort.onCells (Go.Sort.putCells id 0 (Go.Sort.flatK kcL 18 d))) else A.heap[k]? := by
  unfold Go.Proofs.sortWorldK
  rw [Go.Sort.heap_grow_old _ _ (by rw [Go.Sort.size_putRowK]; exact hk)]
  show (A.heap.modify g (Go.Sort.onCells (Go.Sort.putCells id 0 (Go.Sort.flatK kcL 18 d))))[k]? = _
  rw [Array.getElem?_modify]
theorem sorts : SortsK := by
  intro A base v L hQL hv hl
  obtain ⟨g, c, rfl⟩ := hv
  have hblk : g < A.heap.size := (hQL.cells g rfl).2.1
  have eg : ∀ args w, (callFunc 55 args).run Try.prog w = .ok (.enter 55 args) w := enters_of Try.func55 (by kernel_rfl) rfl
  have hcon := Go.Proofs.AnyQ.slices_SortFunc sortRt 18 Try.isAgg98 Try.sizeOf98 kcL kcL_len (fun x => kC_one x) ordV ord_swo 55 #[] g 0 c L.toArray A eg (order_lays g 0 L.toArray.size A) (KL.holds hQL) hblk (by rw [List.size_toArray]; omega)
  change Calls Try.prog 54 #[.slice (some ⟨g, 0, none⟩) L.toArray.size c, .func (.func 55) #[] #[]] A _ at hcon
  rw [List.size_toArray] at hcon
  refine hcon.mono ?_
  rintro e w' ⟨rfl, d', n, os, hp, hs, rfl⟩
  obtain ⟨hp1x, _, hp3⟩ := hp
  have hp1 : d'.size = L.length := hp1x.trans (by simp)
  refine ⟨rfl, d'.toList, ?_, ?_, ?_, ?_⟩
  · have e1 : d'.extract 0 L.length = d' := by rw [← hp1, Array.extract_size]
    have e2 : L.toArray.extract 0 L.length = L.toArray := by simp
    rw [e1, e2] at hp3
    exact hp3
  · rw [List.pairwise_iff_getElem]
    intro i j hi hj hij
    have h1 := hs i j (Nat.zero_le _) hij (by simpa [hp1] using hj)
    unfold Go.Proofs.ltOf at h1
    rw [decide_eq_false_iff_not] at h1
    rw [Array.length_toList] at hi hj
    rw [getElem!_pos d' i hi, getElem!_pos d' j hj] at h1
    rw [Array.getElem_toList, Array.getElem_toList]
    omega
  · have hH := Go.Proofs.holdsK_sortWorldK_c kcL 18 A g 0 L.toArray d' n os (KL.holds hQL) hblk (by rw [hp1]; simp)
    have hlen : d'.toList.length = L.length := by rw [Array.length_toList, hp1]
    rcases hQL.2 with ⟨e, _⟩ | ⟨g', cap, cur, e, hb, hh, hnc, hcm, hcs, ht⟩
    · cases e
    · simp only [Value.slice.injEq, Option.some.injEq, Addr.mk.injEq, and_true, true_and] at e
      obtain ⟨rfl, rfl⟩ := e
      have hnew : (Go.Proofs.sortWorldK kcL 18 A g 0 n d' os).heap[g]? = some (.cells (Go.Sort.putCells id 0 (Go.Sort.flatK kcL 18 d') cur) 98 (0, 0)) := by
        rw [sort_block A g n d' os g hblk, if_pos rfl, hh]
        rfl
      have hcs' : (Go.Sort.putCells id 0 (Go.Sort.flatK kcL 18 d') cur).size = c * 18 := by
        unfold Go.Sort.putCells
        rw [Array.size_mapIdx]
        exact hcs
      refine ⟨by rw [hlen, kcs_len, hlen], .inr ⟨g, c, _, by rw [hlen], hb, hnew, by rw [hlen]; exact hnc, hcm, hcs', ?_⟩⟩
      apply List.ext_getElem?
      intro j
      rw [List.getElem?_take]
      by_cases hj : j < d'.toList.length * 18
      · rw [if_pos hj]
        have h1 := (hH j (by rw [Go.Sort.size_flatK]; simpa using hj)).1
        have h2 := flat_get d'.toList j hj
        rw [Array.toArray_toList] at h2
        obtain ⟨u, hu⟩ := kcs_some d'.toList j hj
        rw [hu] at h2 ⊢
        rw [h2] at h1
        simp only [World.cell?, hnew, Nat.zero_add, id, Option.getD_some] at h1
        rw [Array.getElem?_toList]
        exact h1
      · rw [if_neg hj, List.getElem?_eq_none (by rw [kcs_len]; omega)]
  · refine ⟨rfl, rfl, rfl, Go.Proofs.size_sortWorldK_c kcL 18 A g 0 n d' os, fun k hk hS => ?_⟩
    rw [sort_block A g n d' os k hk, if_neg (fun e => hS (by rw [e]; rfl))]
end Go.Proofs.Ytnpipngiehohgaa
