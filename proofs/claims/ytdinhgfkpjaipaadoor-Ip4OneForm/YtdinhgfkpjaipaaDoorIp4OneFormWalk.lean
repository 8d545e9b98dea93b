/-
  Ip4OneForm: the walk.
-/
import Derived.Test.YtdinhgfkpjaipaaDoorI4Start2
namespace Go.Proofs.YtdinhgfkpjaipaaDoor
open Go.RowKit
open I4 (H4)

theorem canon_ser (h : H4) (m : I4.May h) : canon (I4.ser h) = true := by
  unfold canon
  rw [decide_eq_true ((I4.pE_zero _).2 (I4.ser_taken h m)), decide_eq_true (I4.ser_eqv (I4.ser_eq h m))]
  rfl
set_option maxHeartbeats 6400000 in
set_option maxRecDepth 100000 in
theorem oneForm_walk (a : Option Addr) (cap n : Nat) (bs : List Nat) (w : World) (hn : bs.length = n) (hw : Wid w) (hb : Seg .u8 w a (toI bs)) (h256 : ∀ x ∈ bs, x < 256) (h2 : n ≤ cap) (h3 : cap ≤ 9223372036854775807) :
    Calls Tryd.prog 4 #[.slice a n cap] w fun e w' => e = .returned (.bool true) ∧ Below w.heap.size w w' := by
  have HN : Hid (bs.length = n) := hn
  have H256 : Hid (∀ x ∈ bs, x < 256) := h256
  have HSEG : Hid (∀ A, Below w.heap.size w A → Seg .u8 A a (toI bs)) := fun A hA => hb.old hA
  have HWID : Hid (∀ A, Below w.heap.size w A → Wid A) := fun A hA => hw.old hA
  have HPAR : Hid (∀ A, Below w.heap.size w A → Calls Tryd.prog 20 #[.slice a n cap] A fun e w' => ∃ C, e = .returned (.tuple #[.agg C, .int .i64 (I4.pE bs : Nat)]) ∧ Below A.heap.size A w' ∧ ((I4.pE bs ≠ 0 ∧ C = h4C h4z nilS nilS) ∨ (I4.pE bs = 0 ∧ Read w' A.heap.size a bs C))) := fun A hA => parse_two a cap n bs A hn (hw.old hA) (hb.old hA) h256 h2 h3
  have HCAN : Hid (∀ A, Below w.heap.size w A → Calls Tryd.prog 22 #[.slice a n cap] A fun e w' => e = .returned (.bool (canon bs)) ∧ Below A.heap.size A w') := fun A hA => canonical_any a cap n bs A hn (hw.old hA) (hb.old hA) h256 h2 h3
  have QS : Hid _ := started_any w hw
  obtain ⟨E, hE⟩ : ∃ E, E = I4.pE bs := ⟨_, rfl⟩
  rw [← hE] at HPAR
  have HE : Hid (E = I4.pE bs) := hE
  obtain ⟨cn, hcn⟩ : ∃ cn, cn = canon bs := ⟨_, rfl⟩
  rw [← hcn] at HCAN
  have HCN : Hid (cn = canon bs) := hcn
  clear hn hw hb h256 h2 h3 hE hcn
  go_enter Tryd.func4, Tryd.ntmps4
  go_wp2_with fail
  refine Calls.mono QS.out ?_
  rintro e w1 ⟨rfl, bel1⟩
  clear QS
  go_wp2_with fail
  refine Calls.mono (HPAR.out w1 bel1) ?_
  rintro e w2 ⟨C, rfl, hb2, hres⟩
  have bel2 := bthen bel1 hb2
  clear hb2 bel1
  rcases hres with ⟨hne, rfl⟩ | ⟨h0, hrd⟩
  · have b1 : ((E : Int) != 0) = true := by rw [bne_iff_ne]; omega
    have HF : Hid (cn = false) := by show _ = _; rw [HCN.out]; unfold canon; rw [← HE.out, decide_eq_false hne]; rfl
    clear hne
    go_wp2_with (first | (refine wpList_alloc_h4 rfl rfl ?_) | (refine wpList_store_h4 (.tmp 4) (.tmp 14) rfl rfl w2.heap.size h4z h4z nilS nilS nilS nilS rfl rfl rfl rfl (h4At_new _ _ _ _) rfl ?_))
    intro w3 hP3 k3
    have bel3 := bthen bel2 (stored_below k3)
    have HP3 : Hid (H4At w3 w2.heap.size h4z nilS nilS) := hP3
    clear hP3 k3 bel2
    go_wp2_with fail
    refine Calls.mono (num_any E w3) ?_
    rintro e w4 ⟨rfl, rfl⟩
    have QM : Hid _ := same_true h4z none none none none 0 0 0 0 0 0 [] [] [] w3 (.inl rfl) (.inl rfl) rfl rfl (by decide) rfl (.inl rfl) (.inl rfl) (by intro x hx; cases hx)
    go_wp2_with (first | (refine wpList_load_h4 _ rfl w2.heap.size h4z nilS nilS rfl HP3.out rfl ?_) | (refine wpList_build0 rfl rfl ?_))
    refine Calls.mono QM.out ?_
    rintro e w5 ⟨rfl, hb5⟩
    have bel5 := bthen bel3 hb5
    clear hb5 bel3
    go_wp2_with fail
    refine Calls.mono (HCAN.out w5 bel5) ?_
    rintro e w6 ⟨rfl, hb6⟩
    have bel6 := bthen bel5 hb6
    rw [HF.out]
    clear hb6 bel5
    go_wp2
    go_ret
    exact ⟨rfl, bel6⟩
  · subst h0
    obtain ⟨la, K, lc, os, rfl, hok, _⟩ := hrd.ex
    have tk := hrd.tk
    obtain ⟨may, hlen⟩ := tk.may H256.out
    have HMAY : Hid (I4.May (I4.pH bs)) := may
    have HCHK : Hid (I4.chk (I4.pH bs) = 0) := (I4.chk_zero _).2 may
    have HSL : Hid (∀ x ∈ I4.ser (I4.pH bs), x < 256) := ser_256 _ may hok.sx hok.dx (by rw [hok.hos]; exact opts_256 hok.opts) hok.d256
    have HLEN : Hid ((I4.ser (I4.pH bs)).length ≤ n) := by rw [← HN.out]; exact hlen
    have HCN2 : Hid (cn = decide (I4.ser (I4.pH bs) = bs)) := by show _ = _; rw [HCN.out]; unfold canon; rw [← HE.out]; simp
    obtain ⟨dA, hdA⟩ : ∃ dA, dA = cutA a (I4.hdL bs) (I4.tlL bs - I4.hdL bs) := ⟨_, rfl⟩
    obtain ⟨dn, hdn⟩ : ∃ dn, dn = I4.tlL bs - I4.hdL bs := ⟨_, rfl⟩
    rw [← hdA, ← hdn] at hok ⊢
    have HOK : Hid (H4Ok w2 (I4.pH bs) la K lc os dA dn dn) := hok
    obtain ⟨P, hP⟩ : ∃ P, P = I4.pH bs := ⟨_, rfl⟩
    rw [← hP] at HOK HCHK HSL HMAY HLEN HCN2 ⊢
    clear hdA hdn hok tk may hlen hrd hP HE
    go_wp2_with (first | (refine wpList_alloc_h4 rfl rfl ?_) | (refine wpList_store_h4 (.tmp 4) (.tmp 14) rfl rfl w2.heap.size h4z P nilS nilS (.slice la K lc) (.slice dA dn dn) rfl rfl rfl rfl (h4At_new _ _ _ _) rfl ?_))
    intro w3 hP3 k3
    have sb := stored_below k3
    have bel3 := bthen bel2 sb
    obtain ⟨O, hOO⟩ : ∃ O, O = w2.heap.size := ⟨_, rfl⟩
    rw [← hOO] at hP3 ⊢
    have HP3 : Hid (H4At w3 O P (.slice la K lc) (.slice dA dn dn)) := hP3
    have HOK3 : Hid (H4Ok w3 P la K lc os dA dn dn) := HOK.out.old sb
    have QS : Hid _ := serialise_any P la K lc os dA dn dn w3 (HWID.out w3 bel3) HOK3.out
    rw [HCHK.out] at QS
    clear hP3 k3 sb HOK hOO bel2
    go_wp2_with fail
    refine Calls.mono (num_any 0 w3) ?_
    rintro e w4 ⟨rfl, rfl⟩
    go_wp2_with (first | (refine wpList_load_h4 _ rfl O P (.slice la K lc) (.slice dA dn dn) rfl HP3.out rfl ?_))
    refine Calls.mono QS.out ?_
    rintro e w4 ⟨v, rfl, hb4, hs⟩
    rcases hs with ⟨_, g, rfl, ho⟩ | ⟨hne, _⟩
    case inr => exact absurd HCHK.out hne
    have bel4 := bthen bel3 hb4
    obtain ⟨cb, hcb⟩ : ∃ cb, cb = I4.ser P := ⟨_, rfl⟩
    rw [← hcb] at ho HSL HLEN HCN2 ⊢
    have HCB : Hid (cb = I4.ser P) := hcb
    have HC4 : Hid (Seg .u8 w4 (some ⟨g, 0, none⟩) (toI cb)) := by
      obtain ⟨a', c', e1, hsg, _⟩ := owns_seg ho
      simp only [Value.slice.injEq, true_and] at e1
      rw [e1.1]; exact hsg
    have HP4 : Hid (H4At w4 O P (.slice la K lc) (.slice dA dn dn)) := H4At.below HP3.out hb4
    have HOK4 : Hid (H4Ok w4 P la K lc os dA dn dn) := HOK3.out.old hb4
    have HTK : Hid (I4.Taken cb) := by rw [hcb]; exact I4.ser_taken P HMAY.out
    have HEQ : Hid (I4.Eqv (I4.pH cb) P) := by rw [hcb]; exact I4.ser_eq P HMAY.out
    have HCC : Hid (canon cb = true) := by show _ = _; rw [hcb]; exact canon_ser P HMAY.out
    have HPE : Hid (I4.pE cb = 0) := (I4.pE_zero cb).2 HTK.out
    obtain ⟨T, hT⟩ : ∃ T, T = cb.length := ⟨_, rfl⟩
    have HT : Hid (cb.length = T) := hT.symm
    have hTn : T ≤ 65535 := by rw [hT]; exact HTK.out.le
    have hTm : T ≤ n := by rw [hT]; exact HLEN.out
    rw [← hT]
    have QP : Hid _ := parse_two (some ⟨g, 0, none⟩) T T cb w4 HT.out (HWID.out w4 bel4) HC4.out HSL.out (Nat.le_refl _) (by omega)
    rw [HPE.out] at QP
    clear ho hcb hT hb4 QS HP3 HOK3 bel3 HLEN
    go_wp2_with fail
    refine Calls.mono QP.out ?_
    rintro e w5 ⟨C, rfl, hb5, hr5⟩
    rcases hr5 with ⟨hne, _⟩ | ⟨_, hrd5⟩
    case inl => exact absurd rfl hne
    obtain ⟨lb, K2, lc2, ps, rfl, hok5, _⟩ := hrd5.ex
    have bel5 := bthen bel4 hb5
    have HP5 : Hid (H4At w5 O P (.slice la K lc) (.slice dA dn dn)) := H4At.below HP4.out hb5
    have HOK5 : Hid (H4Ok w5 P la K lc os dA dn dn) := HOK4.out.old hb5
    have HC5 : Hid (Seg .u8 w5 (some ⟨g, 0, none⟩) (toI cb)) := HC4.out.old hb5
    have hv : vals ps = vals os := by
      have h1 := hok5.hos
      rw [HEQ.out.os, HOK5.out.hos] at h1
      exact h1.symm
    have hK2 : K2 = K := by
      have h1 := congrArg List.length hv
      simp only [vals, List.length_map] at h1
      rw [hok5.ol, HOK5.out.ol] at h1
      exact h1
    subst hK2
    have hdn2 : I4.tlL cb - I4.hdL cb = dn := by
      have h1 := hok5.dl
      rw [HEQ.out.data, HOK5.out.dl] at h1
      exact h1.symm
    rw [hdn2] at hok5
    rw [hdn2, h4C_eqv HEQ.out]
    obtain ⟨dB, hdB⟩ : ∃ dB, dB = cutA (some ⟨g, 0, none⟩) (I4.hdL cb) dn := ⟨_, rfl⟩
    rw [← hdB] at hok5 ⊢
    have HOKB : Hid (OptsAt w5 lb ps) := hok5.opts
    have HPN : Hid (ps.length = K2) := hok5.ol
    have HV : Hid (vals ps = vals os) := hv
    have HSB : Hid (Seg .u8 w5 dB (toI P.data)) := by have h1 := hok5.seg; rw [HEQ.out.data] at h1; exact h1
    clear hv hdn2 hok5 hdB hrd5 hb5 QP HP4 HOK4 HC4 bel4
    go_wp2_with (first | (refine wpList_alloc_h4 rfl rfl ?_) | (refine wpList_store_h4 (.tmp 8) (.tmp 42) rfl rfl w5.heap.size h4z P nilS nilS (.slice lb K2 lc2) (.slice dB dn dn) rfl rfl rfl rfl (h4At_new _ _ _ _) rfl ?_))
    intro w6 hP6 k6
    have sb6 := stored_below k6
    have bel6 := bthen bel5 sb6
    obtain ⟨G, hGG⟩ : ∃ G, G = w5.heap.size := ⟨_, rfl⟩
    rw [← hGG] at hP6 ⊢
    have HG6 : Hid (H4At w6 G P (.slice lb K2 lc2) (.slice dB dn dn)) := hP6
    have HP6 : Hid (H4At w6 O P (.slice la K2 lc) (.slice dA dn dn)) := H4At.below HP5.out sb6
    have HOK6 : Hid (H4Ok w6 P la K2 lc os dA dn dn) := HOK5.out.old sb6
    have HC6 : Hid (Seg .u8 w6 (some ⟨g, 0, none⟩) (toI cb)) := HC5.out.old sb6
    have HOKB6 : Hid (OptsAt w6 lb ps) := HOKB.out.old sb6
    have HSB6 : Hid (Seg .u8 w6 dB (toI P.data)) := HSB.out.old sb6
    have QC : Hid _ := check_any' P la K2 lc os dA dn dn w6 HOK6.out
    rw [HCHK.out] at QC
    clear hP6 k6 sb6 hGG HP5 HOK5 HC5 HOKB HSB bel5
    go_wp2_with (first | (refine wpList_load_h4 _ rfl O P (.slice la K2 lc) (.slice dA dn dn) rfl HP6.out rfl ?_))
    refine Calls.mono QC.out ?_
    rintro e w7 ⟨rfl, hb7⟩
    have bel7 := bthen bel6 hb7
    have HG7 : Hid (H4At w7 G P (.slice lb K2 lc2) (.slice dB dn dn)) := H4At.below HG6.out hb7
    have HP7 : Hid (H4At w7 O P (.slice la K2 lc) (.slice dA dn dn)) := H4At.below HP6.out hb7
    have HOK7 : Hid (H4Ok w7 P la K2 lc os dA dn dn) := HOK6.out.old hb7
    have HC7 : Hid (Seg .u8 w7 (some ⟨g, 0, none⟩) (toI cb)) := HC6.out.old hb7
    have HOKB7 : Hid (OptsAt w7 lb ps) := HOKB6.out.old hb7
    have HSB7 : Hid (Seg .u8 w7 dB (toI P.data)) := HSB6.out.old hb7
    clear hb7 QC HG6 HP6 HOK6 HC6 HOKB6 HSB6 bel6
    go_wp2_with fail
    refine Calls.mono (num_any 0 w7) ?_
    rintro e w8 ⟨rfl, rfl⟩
    go_wp2_with fail
    refine Calls.mono (num_any 0 w7) ?_
    rintro e w8 ⟨rfl, rfl⟩
    go_wp2_with fail
    refine Calls.mono (num_any 0 w7) ?_
    rintro e w8 ⟨rfl, rfl⟩
    have QM : Hid _ := same_true P lb la dB dA K2 lc2 lc dn dn dn ps os P.data w7 HOKB7.out HOK7.out.opts HPN.out HV.out HOK7.out.on HOK7.out.dl HSB7.out HOK7.out.seg HOK7.out.d256
    go_wp2_with (first | (refine wpList_load_h4 _ rfl G P (.slice lb K2 lc2) (.slice dB dn dn) rfl HG7.out rfl ?_) | (refine wpList_load_h4 _ rfl O P (.slice la K2 lc) (.slice dA dn dn) rfl HP7.out rfl ?_))
    refine Calls.mono QM.out ?_
    rintro e w8 ⟨rfl, hb8⟩
    have bel8 := bthen bel7 hb8
    have HC8 : Hid (Seg .u8 w8 (some ⟨g, 0, none⟩) (toI cb)) := HC7.out.old hb8
    have QCC : Hid _ := canonical_any (some ⟨g, 0, none⟩) T T cb w8 HT.out (HWID.out w8 bel8) HC8.out HSL.out (Nat.le_refl _) (by omega)
    rw [HCC.out] at QCC
    clear hb8 QM HG7 HP7 HOK7 HC7 HOKB7 HSB7 bel7
    go_wp2_with fail
    refine Calls.mono QCC.out ?_
    rintro e w9 ⟨rfl, hb9⟩
    have bel9 := bthen bel8 hb9
    have HC9 : Hid (Seg .u8 w9 (some ⟨g, 0, none⟩) (toI cb)) := HC8.out.old hb9
    have leq : (T : Int) ≤ (n : Int) := by omega
    clear hb9 QCC HC8 bel8
    go_wp2_with fail
    refine Calls.mono (HCAN.out w9 bel9) ?_
    rintro e w10 ⟨rfl, hb10⟩
    have bel10 := bthen bel9 hb10
    have QA : Hid _ := alike_any a (some ⟨g, 0, none⟩) n T cap T bs cb w10 HN.out HT.out (HSEG.out w10 bel10) (HC9.out.old hb10) H256.out HSL.out
    have HEQB : Hid ((cn == decide (bs = cb)) = true) := by
      show (cn == decide (bs = cb)) = true
      rw [HCN2.out]
      by_cases e : cb = bs
      · rw [decide_eq_true e, decide_eq_true e.symm]; rfl
      · rw [decide_eq_false e, decide_eq_false (fun h => e h.symm)]; rfl
    obtain ⟨dd, hdd⟩ : ∃ dd, dd = decide (bs = cb) := ⟨_, rfl⟩
    rw [← hdd] at QA HEQB
    have heqb := HEQB.out
    clear hb10 hdd bel9
    go_wp2_with fail
    refine Calls.mono QA.out ?_
    rintro e w11 ⟨rfl, rfl⟩
    go_wp2
    go_ret
    exact ⟨rfl, bel10⟩
theorem ip4OneForm.walk (w : World) (hw : Wid w) (a : Option Addr) (len cap : Nat) (z : List Int) (h : IsRow .u8 w a len cap z) :
    Calls Tryd.prog 4 #[.slice a len cap] w fun e w' => e = .returned (.bool true) ∧ Below w.heap.size w w' := by
  obtain ⟨bs, hl, hs, h1, h2, h3⟩ := h.bytes
  exact oneForm_walk a cap len bs w hl hw hs h3 h1 h2
end Go.Proofs.YtdinhgfkpjaipaaDoor
