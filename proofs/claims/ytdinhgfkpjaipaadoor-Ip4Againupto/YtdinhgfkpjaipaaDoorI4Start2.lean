/-
  The statements' own: started.
-/
import Derived.Test.YtdinhgfkpjaipaaDoorI4Start
namespace Go.Proofs.YtdinhgfkpjaipaaDoor
open Go.RowKit
open I4 (H4)

theorem pl_ok (w : World) (s : Nat) (h : Seg .u8 w (some ⟨s, 0, none⟩) (toI [104, 105])) : H4Ok w plH none 0 0 [] (some ⟨s, 0, none⟩) 2 2 :=
  ⟨fun i hi => by
      have : i < 20 := by omega
      rcases I4.lt20 this with rfl | rfl | rfl | rfl | rfl | rfl | rfl | rfl | rfl | rfl | rfl | rfl | rfl | rfl | rfl | rfl | rfl | rfl | rfl | rfl <;> decide,
    fun i hi => by
      have : i < 20 := by omega
      rcases I4.lt20 this with rfl | rfl | rfl | rfl | rfl | rfl | rfl | rfl | rfl | rfl | rfl | rfl | rfl | rfl | rfl | rfl | rfl | rfl | rfl | rfl <;> decide,
    rfl, .inl rfl, rfl, by decide, rfl, h, by decide, by decide, by decide, by decide⟩
theorem plB_256 : ∀ x ∈ plB, x < 256 := by decide
set_option maxHeartbeats 3200000 in
set_option maxRecDepth 100000 in
theorem started_any (w : World) (hw : Wid w) : Calls Tryd.prog 17 #[] w fun e w' => e = .returned (.bool true) ∧ Below w.heap.size w w' := by
  have HWID : Hid (∀ A, Below w.heap.size w A → Wid A) := fun A hA => hw.old hA
  clear hw
  go_enter Tryd.func17, Tryd.ntmps17
  go_wp2_with fail
  refine Calls.mono (plain_any w) ?_
  rintro e w1 ⟨s, t, rfl, bel1, hs, ht⟩
  go_wp2_with (first | (refine wpList_alloc_h4 rfl rfl ?_) | (refine wpList_store_h4 (.tmp 1) (.tmp 11) rfl rfl w1.heap.size h4z plH nilS nilS nilS (.slice (some ⟨s, 0, none⟩) 2 2) rfl rfl rfl rfl (h4At_new _ _ _ _) rfl ?_))
  intro w2 hP2 k2
  have sb := stored_below k2
  have bel2 := bthen bel1 sb
  obtain ⟨P, hPP⟩ : ∃ P, P = w1.heap.size := ⟨_, rfl⟩
  rw [← hPP] at hP2 ⊢
  have HP2 : Hid (H4At w2 P plH nilS (.slice (some ⟨s, 0, none⟩) 2 2)) := hP2
  have HS2 : Hid (Seg .u8 w2 (some ⟨s, 0, none⟩) (toI [104, 105])) := hs.old sb
  have HT2 : Hid (Seg .u8 w2 (some ⟨t, 0, none⟩) (toI plB)) := ht.old sb
  have QS : Hid _ := serialise_any plH none 0 0 [] (some ⟨s, 0, none⟩) 2 2 w2 (HWID.out w2 bel2) (pl_ok w2 s HS2.out)
  rw [pl_chk] at QS
  clear hP2 k2 sb bel1 hs ht hPP
  go_wp2_with (first | (refine wpList_load_h4 _ rfl P plH nilS (.slice (some ⟨s, 0, none⟩) 2 2) rfl HP2.out rfl ?_))
  refine Calls.mono QS.out ?_
  rintro e w3 ⟨v3, rfl, hb3, hr3⟩
  rcases hr3 with ⟨_, g, rfl, ho3⟩ | ⟨hne, _⟩
  case inr => exact absurd pl_chk hne
  rw [pl_ser] at ho3 ⊢
  have bel3 := bthen bel2 hb3
  have HP3 : Hid (H4At w3 P plH nilS (.slice (some ⟨s, 0, none⟩) 2 2)) := H4At.below HP2.out hb3
  have HC3 : Hid (Seg .u8 w3 (some ⟨g, 0, none⟩) (toI plB)) := by
    obtain ⟨a', c', e1, hsg, _⟩ := owns_seg ho3
    simp only [Value.slice.injEq, true_and] at e1
    rw [e1.1]; exact hsg
  have HS3 : Hid (Seg .u8 w3 (some ⟨s, 0, none⟩) (toI [104, 105])) := HS2.out.old hb3
  have HT3 : Hid (Seg .u8 w3 (some ⟨t, 0, none⟩) (toI plB)) := HT2.out.old hb3
  have QP : Hid _ := parse_two (some ⟨t, 0, none⟩) 22 22 plB w3 rfl (HWID.out w3 bel3) HT3.out plB_256 (by decide) (by decide)
  rw [pl_pE] at QP
  clear QS ho3 hb3 HS2 HT2 HP2 bel2
  have e22 : plB.length = 22 := rfl
  rw [e22]
  clear e22
  go_wp2_with fail
  refine Calls.mono QP.out ?_
  rintro e w4 ⟨C, rfl, hb4, hr4⟩
  rcases hr4 with ⟨hne, _⟩ | ⟨_, hrd⟩
  case inl => exact absurd rfl hne
  obtain ⟨la, K, lc, os, rfl, hok, _⟩ := hrd.ex
  have hos0 : os = [] := by
    have h1 := hok.hos
    rw [pl_eqv.os] at h1
    have h2 : vals os = [] := h1.symm
    simpa [vals] using h2
  subst hos0
  have hK0 : K = 0 := hok.ol.symm
  subst hK0
  have hdl : I4.tlL plB - I4.hdL plB = 2 := rfl
  obtain ⟨dA, hdA⟩ : ∃ dA, dA = cutA (some ⟨t, 0, none⟩) (I4.hdL plB) (I4.tlL plB - I4.hdL plB) := ⟨_, rfl⟩
  rw [← hdA, hdl] at hok
  rw [← hdA, hdl, h4C_eqv pl_eqv]
  have HD4 : Hid (Seg .u8 w4 dA (toI [104, 105])) := by
    have h1 := hok.seg
    rw [pl_eqv.data] at h1
    exact h1
  have bel4 := bthen bel3 hb4
  have HP4 : Hid (H4At w4 P plH nilS (.slice (some ⟨s, 0, none⟩) 2 2)) := H4At.below HP3.out hb4
  have HC4 : Hid (Seg .u8 w4 (some ⟨g, 0, none⟩) (toI plB)) := HC3.out.old hb4
  have HS4 : Hid (Seg .u8 w4 (some ⟨s, 0, none⟩) (toI [104, 105])) := HS3.out.old hb4
  have HT4 : Hid (Seg .u8 w4 (some ⟨t, 0, none⟩) (toI plB)) := HT3.out.old hb4
  clear hrd hok hdl hdA hb4 QP HP3 HC3 HS3 HT3 bel3
  go_wp2_with (first | (refine wpList_alloc_h4 rfl rfl ?_) | (refine wpList_store_h4 (.tmp 5) (.tmp 21) rfl rfl w4.heap.size h4z plH nilS nilS (.slice la 0 lc) (.slice dA 2 2) rfl rfl rfl rfl (h4At_new _ _ _ _) rfl ?_))
  intro w5 hP5 k5
  have sb5 := stored_below k5
  have bel5 := bthen bel4 sb5
  obtain ⟨G, hGG⟩ : ∃ G, G = w4.heap.size := ⟨_, rfl⟩
  rw [← hGG] at hP5 ⊢
  have HG5 : Hid (H4At w5 G plH (.slice la 0 lc) (.slice dA 2 2)) := hP5
  have HP5 : Hid (H4At w5 P plH nilS (.slice (some ⟨s, 0, none⟩) 2 2)) := H4At.below HP4.out sb5
  have HC5 : Hid (Seg .u8 w5 (some ⟨g, 0, none⟩) (toI plB)) := HC4.out.old sb5
  have HS5 : Hid (Seg .u8 w5 (some ⟨s, 0, none⟩) (toI [104, 105])) := HS4.out.old sb5
  have HT5 : Hid (Seg .u8 w5 (some ⟨t, 0, none⟩) (toI plB)) := HT4.out.old sb5
  have HD5 : Hid (Seg .u8 w5 dA (toI [104, 105])) := HD4.out.old sb5
  have QN : Hid _ := parse_two none 0 0 [] w5 rfl (HWID.out w5 bel5) (.inl rfl) (by intro x hx; cases hx) (by decide) (by decide)
  rw [pE_nil] at QN
  clear hP5 k5 sb5 hGG HP4 HC4 HS4 HT4 HD4 bel4
  go_wp2_with fail
  refine Calls.mono QN.out ?_
  rintro e w6 ⟨C, rfl, hb6, hr6⟩
  rcases hr6 with ⟨_, rfl⟩ | ⟨h0, _⟩
  case inr => exact absurd h0 (by decide)
  have bel6 := bthen bel5 hb6
  have HG6 : Hid (H4At w6 G plH (.slice la 0 lc) (.slice dA 2 2)) := H4At.below HG5.out hb6
  have HP6 : Hid (H4At w6 P plH nilS (.slice (some ⟨s, 0, none⟩) 2 2)) := H4At.below HP5.out hb6
  have HC6 : Hid (Seg .u8 w6 (some ⟨g, 0, none⟩) (toI plB)) := HC5.out.old hb6
  have HS6 : Hid (Seg .u8 w6 (some ⟨s, 0, none⟩) (toI [104, 105])) := HS5.out.old hb6
  have HT6 : Hid (Seg .u8 w6 (some ⟨t, 0, none⟩) (toI plB)) := HT5.out.old hb6
  have HD6 : Hid (Seg .u8 w6 dA (toI [104, 105])) := HD5.out.old hb6
  clear hb6 QN HG5 HP5 HC5 HS5 HT5 HD5 bel5
  go_wp2_with (first | (refine wpList_alloc_h4 rfl rfl ?_) | (refine wpList_store_h4 (.tmp 7) (.tmp 25) rfl rfl w6.heap.size h4z h4z nilS nilS nilS nilS rfl rfl rfl rfl (h4At_new _ _ _ _) rfl ?_))
  intro w7 hP7 k7
  have sb7 := stored_below k7
  have bel7 := bthen bel6 sb7
  have HG7 : Hid (H4At w7 G plH (.slice la 0 lc) (.slice dA 2 2)) := H4At.below HG6.out sb7
  have HP7 : Hid (H4At w7 P plH nilS (.slice (some ⟨s, 0, none⟩) 2 2)) := H4At.below HP6.out sb7
  have HC7 : Hid (Seg .u8 w7 (some ⟨g, 0, none⟩) (toI plB)) := HC6.out.old sb7
  have HS7 : Hid (Seg .u8 w7 (some ⟨s, 0, none⟩) (toI [104, 105])) := HS6.out.old sb7
  have HT7 : Hid (Seg .u8 w7 (some ⟨t, 0, none⟩) (toI plB)) := HT6.out.old sb7
  have HD7 : Hid (Seg .u8 w7 dA (toI [104, 105])) := HD6.out.old sb7
  clear hP7 k7 sb7 HG6 HP6 HC6 HS6 HT6 HD6 bel6
  go_wp2_with fail
  refine Calls.mono (num_any 0 w7) ?_
  rintro e w8 ⟨rfl, rfl⟩
  go_wp2_with fail
  refine Calls.mono (num_any 0 w7) ?_
  rintro e w8 ⟨rfl, rfl⟩
  go_wp2_with fail
  refine Calls.mono (num_any 60 w7) ?_
  rintro e w8 ⟨rfl, rfl⟩
  have QA : Hid _ := alike_any (some ⟨t, 0, none⟩) (some ⟨g, 0, none⟩) 22 22 22 22 plB plB w7 rfl rfl HT7.out HC7.out plB_256 plB_256
  rw [decide_eq_true rfl] at QA
  go_wp2_with fail
  refine Calls.mono QA.out ?_
  rintro e w8 ⟨rfl, rfl⟩
  have QM : Hid _ := same_true plH la none dA (some ⟨s, 0, none⟩) 0 lc 0 2 2 2 [] [] [104, 105] w7 (.inl rfl) (.inl rfl) rfl rfl (by decide) rfl HD7.out HS7.out (by decide)
  go_wp2_with (first | (refine wpList_load_h4 _ rfl G plH (.slice la 0 lc) (.slice dA 2 2) rfl HG7.out rfl ?_) | (refine wpList_load_h4 _ rfl P plH nilS (.slice (some ⟨s, 0, none⟩) 2 2) rfl HP7.out rfl ?_))
  refine Calls.mono QM.out ?_
  rintro e w8 ⟨rfl, hb8⟩
  have bel8 := bthen bel7 hb8
  clear hb8
  go_wp2
  go_ret
  exact ⟨rfl, bel8⟩
end Go.Proofs.YtdinhgfkpjaipaaDoor
