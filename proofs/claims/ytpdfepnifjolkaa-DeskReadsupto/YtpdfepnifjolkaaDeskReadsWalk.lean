/-
  Layer 20, captures: the walk of DeskReads.
-/
import Derived.Test.YtpdfepnifjolkaaDC8
namespace Go.Proofs.Ytpdfepnifjolkaa
open Go.RowKit Go.ChangeShapes Go.WideShapes

theorem cvt_256 {L : List CE} {cs : List CV} (h : L.map cvt = cs) (k : ∀ c ∈ cs, ∀ x ∈ c.2.2.2, x < 256) : ∀ c ∈ L, ∀ x ∈ c.d, x < 256 := fun c hc => k (cvt c) (by rw [← h]; exact List.mem_map_of_mem hc)
def mk4 : List Nat := [109, 97, 114, 107]
theorem str_app (l : List Nat) : (strOf l).toList ++ [109, 97, 114, 107] = (strOf (l ++ mk4)).toList := by
  rw [ByteArray.toList_eq, ByteArray.toList_eq]
  simp [strOf, mk4]
theorem eq_app (l : List Nat) : ((strOf (l ++ mk4)).toList == (strOf l ++ { data := #[109, 97, 114, 107] }).toList) = true := by
  have e : strOf l ++ { data := #[109, 97, 114, 107] } = strOf (l ++ mk4) := by
    apply WideShapes.bytes_inj
    simp [strOf, mk4]
  rw [e]
  exact beq_self_eq_true _
theorem str_size (l : List Nat) : (strOf l).size = l.length := by simp [strOf, ByteArray.size]
namespace deskReads
set_option maxHeartbeats 1600000 in
set_option maxRecDepth 100000 in
theorem walk (w : World) (a : Option Addr) (n k : Nat) (z : List Int) (h : IsRow .u8 w a n k z) (hcap : k ≤ 1048576) : Calls Try.prog 3 #[.slice a n k] w fun e w' => e = .returned (.bool true) ∧ Below w.heap.size w w' := by
  obtain ⟨bs, hlen, hseg, hnk, _, h256⟩ := h.bytes
  have HS : Hid (Seg .u8 w a (toI bs) ∧ bs.length = n ∧ (∀ x ∈ bs, x < 256) ∧ n ≤ k) := ⟨hseg, hlen, h256, hnk⟩
  clear hseg hlen h256 h
  go_enter Try.func3, Try.ntmps3
  go_upto_region 2 with (first | (at_builtin; refine append_own rfl (.const _) (.tmp 11) rfl w.heap.size (.slice none 0 0) [] rfl (World.ownsRow_nil _ _ _ _) a n k bs rfl HS.out.2.1 HS.out.1 (by simp; omega) (Nat.le_refl _) ?_))
  intro v1 w1 ho1 hk1 _
  replace ho1 : OwnB w1 w.heap.size v1 bs.length bs := by simpa using ho1
  have H1 : Hid (OwnB w1 w.heap.size v1 bs.length bs ∧ Below w.heap.size w w1) := ⟨ho1, hk1.below (fun q hq => by simp [Value.ownBlock] at hq) (Nat.le_refl _)⟩
  unfold OwnB at ho1
  obtain ⟨va1, vc1, hv1⟩ := owns_shape ho1
  rw [HS.out.2.1] at hv1
  subst hv1
  clear ho1 hk1
  go_upto_region 2 with fail
  obtain ⟨wy, hwy⟩ : ∃ y, y = w1.alloc (.cells #[.int .u8 109, .int .u8 97, .int .u8 114, .int .u8 107] 5) := ⟨_, rfl⟩
  have HYB : Hid (Below w1.heap.size w1 wy) := by show Below _ _ _; rw [hwy]; exact (Below.refl _ _).alloc (Nat.le_refl _) _
  have HYS : Hid (Seg .u8 wy (some ⟨w1.heap.size, 0, none⟩) (toI mk4)) := by show Seg _ _ _ _; rw [hwy]; exact seg_new3 w1 .u8 5 (toI mk4)
  have HYW : Hid _ := hwy
  clear hwy
  go_upto_region 3 with (first | (at_builtin; refine append_own rfl (.tmp 13) (.tmp 14) rfl w.heap.size (.slice va1 n vc1) bs rfl ?gr (some ⟨w1.heap.size, 0, none⟩) 4 4 mk4 rfl rfl ?gs (by rw [HS.out.2.1]; omega) ?gb ?gk))
  case gr => rw [← HYW.out]; exact Below.owns_ch H1.out.1 HYB.out
  case gs => rw [← HYW.out]; exact HYS.out
  case gb => rw [← HYW.out]; exact Nat.le_trans H1.out.2.size HYB.out.size
  rw [← HYW.out]
  intro v2 w2 ho2 hk2 _
  replace ho2 : OwnB w2 w.heap.size v2 (n + 4) (bs ++ mk4) := by first | (rw [List.length_append, HS.out.2.1] at ho2; exact ho2) | (rw [HS.out.2.1] at ho2; exact ho2)
  have H2 : Hid (OwnB w2 w.heap.size v2 (n + 4) (bs ++ mk4) ∧ Below w.heap.size w w2) := ⟨ho2, (H1.out.2.trans (HYB.out.mono H1.out.2.size)).trans (hk2.below (fun q hq => (H1.out.1.kind q hq).1) (Nat.le_trans H1.out.2.size HYB.out.size))⟩
  unfold OwnB at ho2
  obtain ⟨va, vc, hv2, hsg2, _, hcap2, _⟩ := owns_seg ho2
  subst hv2
  have HG2 : Hid (Seg .u8 w2 va (toI (bs ++ mk4))) := hsg2
  clear ho2 hk2 hsg2
  go_upto_region 3 with fail
  have i0 : (0 : Int) ≤ (n : Int) := by omega
  have i1 : (n : Int) ≤ (vc : Int) := by omega
  have i2 : ((n : Int)).toNat = n := by omega
  have QR : Hid _ := read_any w2 va n vc bs HS.out.2.1 (by omega) (by omega) (by
    have h1 := HG2.out.part0 n (by rw [toI_len, List.length_append, HS.out.2.1]; omega)
    rw [toI_take, List.take_left' HS.out.2.1] at h1
    exact h1) HS.out.2.2.1
  go_wp2_with fail
  refine Calls.mono QR.out ?_
  rintro e w3 ⟨b3, lv, L, hL, hLm, rfl⟩
  clear QR
  have H3 : Hid (Caps w3 w2.heap.size lv L ∧ L.map cvt = (rdA bs).1 ∧ Below w2.heap.size w2 w3 ∧ Below w.heap.size w w3) := ⟨hL, hLm, b3, H2.out.2.trans (b3.mono H2.out.2.size)⟩
  obtain ⟨lva, lvc, hlv⟩ := hL.l.form
  obtain ⟨m, hm⟩ : ∃ m, m = L.length := ⟨_, rfl⟩
  rw [← hm] at hlv
  subst hlv
  have HM : Hid (m = L.length) := hm
  clear hL hLm b3 hm
  obtain ⟨E, hE⟩ : ∃ E, E = (rdA bs).2.1 := ⟨_, rfl⟩
  obtain ⟨P, hP⟩ : ∃ P, P = (rdA bs).2.2 := ⟨_, rfl⟩
  rw [← hE, ← hP]
  have HE : Hid (E = (rdA bs).2.1 ∧ P = (rdA bs).2.2) := ⟨hE, hP⟩
  have QR : Hid _ := rread_any w3 a n k bs HS.out.2.1 HS.out.2.2.2 (by omega) (HS.out.1.old H3.out.2.2.2) HS.out.2.2.1
  rw [← hE, ← hP] at QR
  clear hE hP
  go_wp2_with fail
  refine Calls.mono QR.out ?_
  rintro e w4 ⟨b4, mv, M, hM, hMm, rfl⟩
  clear QR
  have H4 : Hid (Caps w4 w3.heap.size mv M ∧ M.map cvt = (rdA bs).1 ∧ Below w3.heap.size w3 w4 ∧ Below w.heap.size w w4 ∧ Below w2.heap.size w2 w4) := ⟨hM, hMm, b4, H3.out.2.2.2.trans (b4.mono H3.out.2.2.2.size), H3.out.2.2.1.trans (b4.mono H3.out.2.2.1.size)⟩
  obtain ⟨mva, mvc, hmv⟩ := hM.l.form
  have hML : M.length = m := by have h1 := congrArg List.length hMm; have h2 := congrArg List.length H3.out.2.1; rw [List.length_map] at h1 h2; rw [HM.out]; omega
  rw [hML] at hmv
  subst hmv
  clear hM hMm b4 hML
  have HR := rdA_facts bs HS.out.2.2.1
  have HRF : Hid ((E = 0 ∨ E = 204) ∧ m ≤ 1048576 ∧ (∀ c ∈ (rdA bs).1, ∀ x ∈ c.2.2.2, x < 256) ∧ (E = 0 → wrA (rdA bs).1 = (bs, 0))) := by
    rw [HE.out.1]
    refine ⟨HR.1, ?_, HR.2.2.1, HR.2.2.2⟩
    have h1 := congrArg List.length H3.out.2.1
    rw [List.length_map] at h1
    have h2 := HR.2.1
    rw [HS.out.2.1] at h2
    rw [HM.out]; omega
  clear HR
  have QS : Hid (Calls Try.prog 8 #[.slice lva m lvc, .slice mva m mvc] w4 fun e w' => e = .returned (.bool true) ∧ Below w4.heap.size w4 w') := by
    obtain ⟨xa, xc, hx, hxi⟩ := (H3.out.1.below H4.out.2.2.1).inn (cvt_256 H3.out.2.1 HRF.out.2.2.1)
    obtain ⟨ya, yc, hy, hyi⟩ := H4.out.1.inn (cvt_256 H4.out.2.1 HRF.out.2.2.1)
    simp only [Value.slice.injEq] at hx hy
    rw [← hx.1] at hxi
    rw [← hy.1] at hyi
    exact same_true w4 lva mva m lvc mvc L M hxi hyi HM.out.symm (by rw [H3.out.2.1, H4.out.2.1]) (by have := HRF.out.2.1; omega)
  go_wp2_with fail
  refine Calls.mono QS.out ?_
  rintro e w5 ⟨rfl, b5⟩
  clear QS
  have H5 : Hid (Below w4.heap.size w4 w5 ∧ Below w.heap.size w w5 ∧ Below w2.heap.size w2 w5) := ⟨b5, H4.out.2.2.2.1.trans (b5.mono H4.out.2.2.2.1.size), H4.out.2.2.2.2.trans (b5.mono H4.out.2.2.2.2.size)⟩
  clear b5
  have h256m : ∀ x ∈ bs ++ mk4, x < 256 := by
    intro x hx
    rcases List.mem_append.1 hx with hx | hx
    · exact HS.out.2.2.1 x hx
    · exact (by decide : ∀ y ∈ mk4, y < 256) x hx
  have k1 := conv_any w5 va vc (bs ++ mk4) (HG2.out.old H5.out.2.2) h256m
  rw [List.length_append, HS.out.2.1] at k1
  have k2 := conv_any w5 a k bs (HS.out.1.old H5.out.2.1) HS.out.2.2.1
  rw [HS.out.2.1] at k2
  have k3 := eq_app bs
  have k4 : ¬ 9223372036854775807 < (strOf bs).size + 4 := by rw [str_size, HS.out.2.1]; omega
  have k1' : (convert 22 9 (.slice va (n + 4) vc)).run Try.prog w5 = .ok (.string (strOf (bs ++ mk4))) w5 := k1
  clear k1 h256m
  obtain ⟨s1, hs1⟩ : ∃ s, s = strOf (bs ++ mk4) := ⟨_, rfl⟩
  obtain ⟨s0, hs0⟩ : ∃ s, s = strOf bs := ⟨_, rfl⟩
  rw [← hs1] at k1' k3
  rw [← hs0] at k2 k3 k4
  have HS0 : Hid (s0 = strOf bs) := hs0
  clear hs1 hs0
  go_upto_region 7 with fail
  clear k1' k2 k3 k4
  rcases HRF.out.1 with rfl | rfl
  case inr =>
    go_wp2
    go_ret
    exact ⟨rfl, H5.out.2.1⟩
  have HWR : Hid (wrA (rdA bs).1 = (bs, 0)) := HRF.out.2.2.2 rfl
  have QW : Hid (Calls Try.prog 9 #[.slice lva m lvc] w5 fun e w' => Below w5.heap.size w5 w' ∧ ∃ v, RowW w' w5.heap.size v bs ∧ e = .returned (.tuple #[v, .int .i64 0])) := by
    obtain ⟨xa, xc, hx, hxi⟩ := ((H3.out.1.below H4.out.2.2.1).below H5.out.1).inn (cvt_256 H3.out.2.1 HRF.out.2.2.1)
    simp only [Value.slice.injEq] at hx
    rw [← hx.1] at hxi
    have h1 := write_any w5 lva m lvc L hxi HM.out.symm (by have := HRF.out.2.1; omega)
    rw [H3.out.2.1, HWR.out] at h1
    exact h1
  go_wp2_with fail
  refine Calls.mono QW.out ?_
  rintro e w6 ⟨b6, ov, hov, rfl⟩
  clear QW
  obtain ⟨oa, oc, ho, _⟩ := hov.form
  rw [HS.out.2.1] at ho
  subst ho
  have H6 : Hid (Below w.heap.size w w6) := H5.out.2.1.trans (b6.mono H5.out.2.1.size)
  have k1 := conv_any w6 oa oc bs hov.seg HS.out.2.2.1
  have k2 := conv_any w6 a k bs (HS.out.1.old H6.out) HS.out.2.2.1
  rw [HS.out.2.1, ← HS0.out] at k1 k2
  clear hov b6
  go_wp2
  go_ret
  exact ⟨rfl, H6.out⟩
end deskReads
end Go.Proofs.Ytpdfepnifjolkaa
