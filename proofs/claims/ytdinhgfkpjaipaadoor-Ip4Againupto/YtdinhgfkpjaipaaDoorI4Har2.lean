/-
  Canonical.
-/
import Derived.Test.YtdinhgfkpjaipaaDoorI4Har1
namespace Go.Proofs.YtdinhgfkpjaipaaDoor
open Go.RowKit
open I4 (H4)

theorem stored_below {w w5 : World} {X : Obj} (k5 : Ch (fun q => q = w.heap.size) (w.alloc X) w5) : Below w.heap.size w w5 :=
  ((Below.refl _ _).alloc (Nat.le_refl _) X).trans (k5.below (fun q e => by have e' : q = w.heap.size := e; omega) (by simp))
def canon (bs : List Nat) : Bool := decide (I4.pE bs = 0) && decide (I4.ser (I4.pH bs) = bs)
theorem pE_le (bs : List Nat) : I4.pE bs ≤ 68 := by
  unfold I4.pE
  (repeat' split) <;> omega
theorem ser_256 (h : H4) (m : I4.May h) (hs : ∀ i, i < 16 → h.sx i < 256) (hd : ∀ i, i < 16 → h.dx i < 256) (ho : ∀ o ∈ h.os, ∀ x ∈ o.2, x < 256) (hdt : ∀ x ∈ h.data, x < 256) : ∀ x ∈ I4.ser h, x < 256 := by
  have hk := hdOk_of h m hs hd
  have hsum : I4.serSum h ≤ 65535 := by unfold I4.serSum; omega
  intro x hx
  unfold I4.ser at hx
  generalize I4.serSum h = s at hx hsum
  rcases List.mem_append.1 hx with hx | hx
  · obtain ⟨i, hi⟩ := List.mem_iff_getElem?.1 hx
    have hi20 : i < 20 := (List.getElem?_eq_some_iff.1 hi).1
    by_cases h10 : i = 10
    · subst h10
      have : x = s / 256 := by simpa [I4.hlist] using hi.symm
      omega
    · by_cases h11 : i = 11
      · subst h11
        have : x = s % 256 := by simpa [I4.hlist] using hi.symm
        omega
      · have h0 := hlist_lt h _ _ hk i hi20
        have e : (I4.hlist h (I4.serHd h) (I4.serTl h) s).getD i 0 = (I4.hlist h (I4.serHd h) (I4.serTl h) 0).getD i 0 := by
          rcases I4.lt20 hi20 with rfl | rfl | rfl | rfl | rfl | rfl | rfl | rfl | rfl | rfl | rfl | rfl | rfl | rfl | rfl | rfl | rfl | rfl | rfl | rfl
          all_goals first | omega | rfl
        rw [← e] at h0
        simpa [List.getD, hi] using h0
  · rcases List.mem_append.1 hx with hx | hx
    · exact put_256 _ ho x hx
    · exact hdt x hx
set_option maxHeartbeats 1600000 in
set_option maxRecDepth 100000 in
theorem canonical_any (a : Option Addr) (cap n : Nat) (bs : List Nat) (w : World) (hn : bs.length = n) (hw : Wid w) (hb : Seg .u8 w a (toI bs)) (h256 : ∀ x ∈ bs, x < 256) (h2 : n ≤ cap) (h3 : cap ≤ 9223372036854775807) :
    Calls Tryd.prog 22 #[.slice a n cap] w fun e w' => e = .returned (.bool (canon bs)) ∧ Below w.heap.size w w' := by
  have QP : Hid _ := parse_two a cap n bs w hn hw hb h256 h2 h3
  have HN : Hid (bs.length = n) := hn
  have H256 : Hid (∀ x ∈ bs, x < 256) := h256
  have HSEG : Hid (∀ A, Below w.heap.size w A → Seg .u8 A a (toI bs)) := fun A hA => hb.old hA
  have HWID : Hid (∀ A, Below w.heap.size w A → Wid A) := fun A hA => hw.old hA
  obtain ⟨E, hE⟩ : ∃ E, E = I4.pE bs := ⟨_, rfl⟩
  rw [← hE] at QP
  have hEl : E ≤ 68 := by rw [hE]; exact pE_le bs
  have HE : Hid (E = I4.pE bs) := hE
  obtain ⟨R, hR⟩ : ∃ R, R = canon bs := ⟨_, rfl⟩
  rw [← hR]
  have HR : Hid (R = canon bs) := hR
  clear hn hw hb h256 hE h2 h3 hR
  go_enter Tryd.func22, Tryd.ntmps22
  go_wp2_with fail
  refine Calls.mono QP.out ?_
  rintro e w1 ⟨C, rfl, hb1, hres⟩
  clear QP
  rcases hres with ⟨hne, rfl⟩ | ⟨h0, hrd⟩
  · have b1 : ((E : Int) != 0) = true := by rw [bne_iff_ne]; omega
    have HF : Hid (R = false) := by show _ = _; rw [HR.out]; unfold canon; rw [← HE.out, decide_eq_false hne]; rfl
    clear hne
    go_wp2_with (first | (refine wpList_alloc_h4 rfl rfl ?_) | (refine wpList_store_h4 (.tmp 3) (.tmp 9) rfl rfl w1.heap.size h4z h4z nilS nilS nilS nilS rfl rfl rfl rfl (h4At_new _ _ _ _) rfl ?_))
    intro w2 hP2 k2
    have HF2 : Hid (Below w.heap.size w w2) := bthen hb1 (stored_below k2)
    clear hP2 k2
    go_wp2
    go_ret
    exact ⟨by rw [HF.out]; rfl, HF2.out⟩
  · subst h0
    obtain ⟨la, K, lc, os, rfl, hok, hown⟩ := hrd.ex
    have tk := hrd.tk
    obtain ⟨may, _⟩ := tk.may H256.out
    have HCHK : Hid (I4.chk (I4.pH bs) = 0) := (I4.chk_zero _).2 may
    have HSL : Hid (∀ x ∈ I4.ser (I4.pH bs), x < 256) := ser_256 _ may hok.sx hok.dx (by rw [hok.hos]; exact opts_256 hok.opts) hok.d256
    obtain ⟨dA, hdA⟩ : ∃ dA, dA = cutA a (I4.hdL bs) (I4.tlL bs - I4.hdL bs) := ⟨_, rfl⟩
    obtain ⟨dn, hdn⟩ : ∃ dn, dn = I4.tlL bs - I4.hdL bs := ⟨_, rfl⟩
    rw [← hdA, ← hdn] at hok ⊢
    have HOK : Hid (H4Ok w1 (I4.pH bs) la K lc os dA dn dn) := hok
    obtain ⟨P, hP⟩ : ∃ P, P = I4.pH bs := ⟨_, rfl⟩
    rw [← hP] at HOK HCHK HSL ⊢
    have HPP : Hid (P = I4.pH bs) := hP
    clear hdA hdn hok hown tk may hrd hP
    go_wp2_with (first | (refine wpList_alloc_h4 rfl rfl ?_) | (refine wpList_store_h4 (.tmp 3) (.tmp 9) rfl rfl w1.heap.size h4z P nilS nilS (.slice la K lc) (.slice dA dn dn) rfl rfl rfl rfl (h4At_new _ _ _ _) rfl ?_))
    intro w2 hP2 k2
    have sb := stored_below k2
    have hb2 := bthen hb1 sb
    have HP2 : Hid (H4At w2 w1.heap.size P (.slice la K lc) (.slice dA dn dn)) := hP2
    have QS : Hid _ := serialise_any P la K lc os dA dn dn w2 (HWID.out w2 hb2) (HOK.out.old sb)
    rw [HCHK.out] at QS
    clear hP2 k2 sb
    go_wp2_with (first | (refine wpList_load_h4 _ rfl w1.heap.size P (.slice la K lc) (.slice dA dn dn) rfl HP2.out rfl ?_))
    refine Calls.mono QS.out ?_
    rintro e w3 ⟨v, rfl, hb3, hs⟩
    rcases hs with ⟨_, g, rfl, ho⟩ | ⟨hne, _⟩
    case inr => exact absurd HCHK.out hne
    have bel3 := bthen hb2 hb3
    obtain ⟨a', c', e1, hsg, _⟩ := owns_seg ho
    simp only [Value.slice.injEq, true_and] at e1
    have hsg' : Seg .u8 w3 (some ⟨g, 0, none⟩) (toI (I4.ser P)) := by rw [e1.1]; exact hsg
    have QE : Hid _ := equal_any (some ⟨g, 0, none⟩) a (I4.ser P).length n (I4.ser P).length cap (I4.ser P) bs w3 rfl HN.out hsg' (HSEG.out w3 bel3) HSL.out H256.out
    obtain ⟨T, hT⟩ : ∃ T, T = (I4.ser P).length := ⟨_, rfl⟩
    rw [← hT] at QE ⊢
    have HF : Hid (R = decide (I4.ser P = bs)) := by show _ = _; rw [HR.out]; unfold canon; rw [← HE.out, HPP.out]; simp
    clear ho hsg hsg' e1 hb3 QS hT
    go_wp2_with fail
    refine Calls.mono QE.out ?_
    rintro e w4 ⟨rfl, rfl⟩
    go_wp2
    go_ret
    exact ⟨by rw [HF.out]; rfl, bel3⟩
end Go.Proofs.YtdinhgfkpjaipaaDoor
