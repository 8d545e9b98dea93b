/-
  The walk of HolePlays.
-/
import Derived.Test.YtfahfbpobmpccaaKWc
import Derived.Test.YtfahfbpobmpccaaRows
import Derived.Lib.SlBytesConst
namespace Go.Proofs.Ytfahfbpobmpccaa
open Go.RowKit Go.Maps H11
namespace H11
theorem seg8 (w w' : World) (hw : w' = w.alloc (.cells #[.int .u8 97, .int .u8 98, .int .u8 99, .int .u8 100, .int .u8 101, .int .u8 102, .int .u8 103, .int .u8 104] 5 (8, 9))) : Seg .u8 w' (some ⟨w.heap.size, 0, none⟩) (toI [97, 98, 99, 100, 101, 102, 103, 104]) := by
  refine .inr ⟨_, 0, rfl, ?_⟩
  intro i hi
  have hB : w'.heap[w.heap.size]? = some (.cells #[.int .u8 97, .int .u8 98, .int .u8 99, .int .u8 100, .int .u8 101, .int .u8 102, .int .u8 103, .int .u8 104] 5 (8, 9)) := by rw [hw]; exact heap_alloc_new _ _
  have hc : w'.cell? ⟨w.heap.size, 0 + i, none⟩ = (#[.int .u8 97, .int .u8 98, .int .u8 99, .int .u8 100, .int .u8 101, .int .u8 102, .int .u8 103, .int .u8 104] : Array Value)[0 + i]? := by simp [World.cell?, hB]
  rw [hc]
  have hi' : i < 8 := by simpa [toI] using hi
  match i, hi' with
  | 0, _ => rfl
  | 1, _ => rfl
  | 2, _ => rfl
  | 3, _ => rfl
  | 4, _ => rfl
  | 5, _ => rfl
  | 6, _ => rfl
  | 7, _ => rfl
end H11
set_option maxRecDepth 100000 in
set_option maxHeartbeats 51200000 in
theorem holePlays.walk (W : World) (a0 : Int) (_ : (Lit.int .i64 a0).wf = true) (a : Option Addr) (len cap : Nat) (ops : List StV) (hl : ops.length = len) (hs : StsU W a ops) (_ : len ≤ 1048576) :
    Calls Try.prog 7 #[.int .i64 a0, .slice a len cap] W fun e W' => e = .returned (.bool true) ∧ Below W.heap.size W W' := by
  have QM : Hid _ := made_yes W 64 (by omega) (by omega) none none
  have HPS : Hid (StsU W a ops) := hs
  have HLN : Hid (ops.length = len) := hl
  clear hl hs
  go_enter Try.func7, Try.ntmps7
  go_wp2_with fail
  refine Calls.mono QM.out ?_
  rintro e0 w1 ⟨e1, rfl, he1, hes, hlo, hb1⟩
  have H1 : Hid (EOk w1 e1 ∧ e1.s = nw 64 ∧ (∀ x, EB e1 x → W.heap.size ≤ x) ∧ Below W.heap.size W w1) := ⟨he1, hes, hlo, hb1⟩
  unfold pv
  clear he1 hes hlo hb1 QM
  go_upto_region 2 with fail
  obtain ⟨P5, hP5⟩ : ∃ P5, P5 = w1.heap.size := ⟨_, rfl⟩
  obtain ⟨w2, hw2⟩ : ∃ w2, w2 = w1.alloc (.cells #[.pointer (some ⟨e1.H, 0, none⟩), .pointer (some ⟨e1.R, 0, none⟩)] 56) := ⟨_, rfl⟩
  have hb2 : Below w1.heap.size w1 w2 := by rw [hw2]; exact (Below.refl _ _).alloc (Nat.le_refl _) _
  have hP : PrAt w2 P5 #[.pointer (some ⟨e1.H, 0, none⟩), .pointer (some ⟨e1.R, 0, none⟩)] := by rw [hw2, hP5]; exact PrAt_new _ _
  have H2 : Hid (EOk w2 e1 ∧ e1.s = nw 64 ∧ (∀ x, EB e1 x → W.heap.size ≤ x ∧ x < P5) ∧ Below W.heap.size W w2 ∧ W.heap.size ≤ P5) := ⟨H1.out.1.below hb2, H1.out.2.1, fun x hx => ⟨H1.out.2.2.1 x hx, by rw [hP5]; exact H1.out.1.lt x hx⟩, H1.out.2.2.2.trans (hb2.mono H1.out.2.2.2.size), by rw [hP5]; exact H1.out.2.2.2.size⟩
  rw [← hP5, ← hw2]
  have c0 : w2.cell? ⟨P5, 0, none⟩ = some (.pointer (some ⟨e1.H, 0, none⟩)) := (hP.cell 0).trans rfl
  clear hP5 hw2 hb2 H1
  have QP : Hid _ := put_any w2 e1 H2.out.1 (by rw [H2.out.2.1]; simp [nw]) (-1) [] none 0 0 rfl (by omega) (Nat.le_refl _) true (by simp) (.inl rfl) (by simp)
  go_wp2_with (first | (refine wpList_load_Pr (.tmp 5) rfl P5 _ rfl rfl hP rfl ?_))
  refine Calls.mono QP.out ?_
  rintro e2 w3 ⟨rfl, hm⟩
  obtain ⟨v3, u3, h3, l3, k3⟩ := hm.open
  have hP3 := hP.ch k3 (fun q => by have := (H2.out.2.2.1 P5 q).2; omega)
  have H3 : Hid (EOk w3 ⟨e1.H, e1.R, pS e1.s (-1) [] true, v3, u3⟩ ∧ (∀ x, EB ⟨e1.H, e1.R, pS e1.s (-1) [] true, v3, u3⟩ x → W.heap.size ≤ x ∧ x ≠ P5) ∧ Below W.heap.size W w3) := by
    have hsz := hP.lt
    refine ⟨h3, fun x hx => ?_, H2.out.2.2.2.1.trans (k3.below (fun x hx => (H2.out.2.2.1 x hx).1) H2.out.2.2.2.1.size)⟩
    rcases l3 x hx with z | z
    · have := H2.out.2.2.1 x z; exact ⟨this.1, by omega⟩
    · exact ⟨Nat.le_trans H2.out.2.2.2.1.size z, by omega⟩
  have HT3 : Hid ((pS e1.s (-1) [] true).tk.length ≤ 1) := pS_tk1 _ _ _ _ (by rw [H2.out.2.1]; simp [nw])
  obtain ⟨s3, hs3⟩ : ∃ s3, s3 = pS e1.s (-1) [] true := ⟨_, rfl⟩
  rw [← hs3] at H3 HT3
  have HW5 : Hid (W.heap.size ≤ P5) := H2.out.2.2.2.2
  clear hm h3 l3 k3 hP QP hs3 H2 c0
  obtain ⟨w4, hw4⟩ : ∃ w4, w4 = w3.alloc (.cells #[.int .u8 97, .int .u8 98, .int .u8 99, .int .u8 100, .int .u8 101, .int .u8 102, .int .u8 103, .int .u8 104] 5 (8, 9)) := ⟨_, rfl⟩
  obtain ⟨X4, hX4⟩ : ∃ X4, X4 = w3.heap.size := ⟨_, rfl⟩
  have hb4 : Below w3.heap.size w3 w4 := by rw [hw4]; exact (Below.refl _ _).alloc (Nat.le_refl _) _
  have hsg := seg8 w3 w4 hw4
  rw [← hX4] at hsg
  have QP4 : Hid _ := put_any w4 ⟨e1.H, e1.R, s3, v3, u3⟩ (H3.out.1.below hb4) (Nat.le_trans HT3.out (by omega)) 0 [97, 98, 99, 100, 101, 102, 103, 104] (some ⟨X4, 0, none⟩) 8 8 rfl (by omega) (Nat.le_refl _) true (by simp) hsg (fun x _ hx q => by simp only [Option.some.injEq] at hx; rw [← hx] at q; have := H3.out.1.lt _ q; simp only at this; omega)
  have HW4 : Hid (w3.alloc (.cells #[.int .u8 97, .int .u8 98, .int .u8 99, .int .u8 100, .int .u8 101, .int .u8 102, .int .u8 103, .int .u8 104] 5 (8, 9)) = w4 ∧ w3.heap.size = X4) := ⟨hw4.symm, hX4.symm⟩
  have H4 : Hid (EOk w4 ⟨e1.H, e1.R, s3, v3, u3⟩ ∧ Below W.heap.size W w4) := ⟨H3.out.1.below hb4, H3.out.2.2.trans (hb4.mono H3.out.2.2.size)⟩
  have hP4 := hP3.below hb4
  have hP := hP3
  have kc := Go.Lib.run_convert_bytes_const (P := Try.prog) w3 22 5 #[.int .u8 97, .int .u8 98, .int .u8 99, .int .u8 100, .int .u8 101, .int .u8 102, .int .u8 103, .int .u8 104] 8 8 Try.underlying22 Try.underlying5
  clear hw4 hX4 hb4 hsg
  go_wp2_with (first | (refine wpList_load_Pr (.tmp 5) rfl P5 _ rfl rfl hP rfl ?_))
  (try simp only [List.size_toArray, List.length_cons, List.length_nil, Nat.reduceAdd])
  rw [HW4.out.1, HW4.out.2]
  clear kc
  refine Calls.mono QP4.out ?_
  rintro e3 w5 ⟨rfl, hm⟩
  obtain ⟨v5, u5, h5, l5, k5⟩ := hm.open
  clear hP
  have hP := hP4.ch k5 (fun q => (H3.out.2.1 P5 q).2 rfl)
  obtain ⟨s5, hs5⟩ : ∃ s5, s5 = pS s3 0 [97, 98, 99, 100, 101, 102, 103, 104] true := ⟨_, rfl⟩
  have HT5 : Hid (s5.tk.length ≤ 2) := by rw [hs5]; exact pS_tk1 _ _ _ _ HT3.out
  simp only at h5 l5
  rw [← hs5] at h5 l5
  obtain ⟨H0, hH0⟩ : ∃ H0, H0 = e1.H := ⟨_, rfl⟩
  obtain ⟨R0, hR0⟩ : ∃ R0, R0 = e1.R := ⟨_, rfl⟩
  rw [← hH0, ← hR0] at h5 l5 hP H3 k5 ⊢
  obtain ⟨e5, he5⟩ : ∃ e5, e5 = (⟨H0, R0, s5, v5, u5⟩ : Ent) := ⟨_, rfl⟩
  have hHR : H0 = e5.H ∧ R0 = e5.R := by rw [he5]; exact ⟨rfl, rfl⟩
  rw [← he5] at h5 l5
  rw [hHR.1, hHR.2] at hP ⊢
  have H5 : Hid (EOk w5 e5 ∧ e5.s.tk.length ≤ 2 ∧ (∀ x, EB e5 x → W.heap.size ≤ x ∧ x ≠ P5) ∧ Below W.heap.size W w5) := by
    have hsz := hP4.lt
    refine ⟨h5, by rw [he5]; exact HT5.out, fun x hx => ?_, H4.out.2.trans (k5.below (fun x hx => (H3.out.2.1 x hx).1) H4.out.2.size)⟩
    rcases l5 x hx with z | z
    · exact H3.out.2.1 x z
    · exact ⟨Nat.le_trans H4.out.2.size z, by omega⟩
  clear hm h5 l5 k5 hP3 hP4 QP4 hs5 HT5 HT3 H4 H3 HW4 hH0 hR0 he5 hHR
  obtain ⟨w6, hw6⟩ : ∃ w6, w6 = w5.alloc (.cells #[.slice none 0 0, .slice none 0 0, .slice none 0 0, .slice none 0 0] 65) := ⟨_, rfl⟩
  obtain ⟨B6, hB6⟩ : ∃ B6, B6 = w5.heap.size := ⟨_, rfl⟩
  have hb6 : Below w5.heap.size w5 w6 := by rw [hw6]; exact (Below.refl _ _).alloc (Nat.le_refl _) _
  have hbk := bk_new w5 w6 hw6
  rw [← hB6] at hbk
  have QA : Hid _ := asked_any w6 e5 (H5.out.1.below hb6) 2 B6 bz0 hbk rfl rfl (Nat.zero_le _) (Nat.zero_le _)
  have HW6 : Hid (w5.alloc (.cells #[.slice none 0 0, .slice none 0 0, .slice none 0 0, .slice none 0 0] 65) = w6 ∧ w5.heap.size = B6) := ⟨hw6.symm, hB6.symm⟩
  have H6 : Hid (EOk w6 e5 ∧ Below W.heap.size W w6 ∧ PrAt w6 P5 #[.pointer (some ⟨e5.H, 0, none⟩), .pointer (some ⟨e5.R, 0, none⟩)] ∧ ∀ x, BB B6 bz0 x → x = w5.heap.size) := ⟨H5.out.1.below hb6, H5.out.2.2.2.trans (hb6.mono H5.out.2.2.2.size), hP.below hb6, fun x hx => by rw [bz0_bb hx]; exact hB6⟩
  clear hw6 hB6 hb6 hbk
  go_wp2_with (first | (refine wpList_load_Pr (.tmp 5) rfl P5 _ rfl rfl hP rfl ?_))
  rw [HW6.out.1, HW6.out.2]
  refine Calls.mono QA.out ?_
  rintro e4 w7 ⟨rfl, hm⟩
  obtain ⟨b7, _, _, _, _, _, _, k7⟩ := hm
  have H7 : Hid (EOk w7 e5 ∧ e5.s.tk.length ≤ 2 ∧ (∀ x, EB e5 x → W.heap.size ≤ x ∧ x ≠ P5) ∧ Below W.heap.size W w7) := by
    refine ⟨H6.out.1.ch k7 (fun x hx q => ?_), H5.out.2.1, H5.out.2.2.1, H6.out.2.1.trans (k7.below (fun x hx => ?_) H6.out.2.1.size)⟩
    · have := H6.out.2.2.2 x q
      have := H5.out.1.lt x hx
      omega
    · rw [H6.out.2.2.2 x hx]; exact H5.out.2.2.2.size
  have hP7 := H6.out.2.2.1.ch k7 (fun q => by have := H6.out.2.2.2 P5 q; have := hP.lt; omega)
  clear k7 hP QA H6 HW6 H5
  have hP := hP7
  clear hP7
  go_upto_region 4 with fail
  have QM : Hid (Calls Try.prog 21 #[.int .i64 a0, .agg #[.pointer (some ⟨e5.H, 0, none⟩), .pointer (some ⟨e5.R, 0, none⟩)]] w7 fun r w' => ∃ f : Ent, r = .returned (.tuple #[.agg #[.pointer (some ⟨f.H, 0, none⟩), .pointer (some ⟨f.R, 0, none⟩)], .bool true]) ∧ EOk w' f ∧ f.s.tk.length ≤ 2 ∧ (f = e5 ∨ ∀ x, EB f x → w7.heap.size ≤ x) ∧ Below w7.heap.size w7 w') := by
    by_cases hmx : 1 ≤ a0 ∧ a0 ≤ 65535
    · obtain ⟨m, hm⟩ : ∃ m : Nat, (m : Int) = a0 := ⟨a0.toNat, by omega⟩
      subst hm
      refine (made_yes w7 m (by omega) (by omega) (some ⟨e5.H, 0, none⟩) (some ⟨e5.R, 0, none⟩)).mono ?_
      rintro r w' ⟨f, rfl, g1, g2, g3, g4⟩
      exact ⟨f, rfl, g1, by rw [g2]; simp [nw], .inr g3, g4⟩
    · refine (made_no w7 a0 hmx (some ⟨e5.H, 0, none⟩) (some ⟨e5.R, 0, none⟩)).mono ?_
      rintro r w' ⟨rfl, g4⟩
      exact ⟨e5, rfl, H7.out.1.below g4, H7.out.2.1, .inl rfl, g4⟩
  go_wp2_with (first | (refine wpList_load_Pr (.tmp 5) rfl P5 _ rfl rfl hP rfl ?_))
  refine Calls.mono QM.out ?_
  rintro e6 w8 ⟨f, rfl, hf, hfs, hfl, hb8⟩
  have H8 : Hid (EOk w8 e5 ∧ EOk w8 f ∧ e5.s.tk.length ≤ 2 ∧ f.s.tk.length ≤ 2 ∧ (∀ x, EB e5 x → W.heap.size ≤ x ∧ x < w7.heap.size) ∧ (f = e5 ∨ ∀ x, EB f x → w7.heap.size ≤ x) ∧ Below W.heap.size W w8 ∧ W.heap.size ≤ w7.heap.size) := ⟨H7.out.1.below hb8, hf, H7.out.2.1, hfs, fun x hx => ⟨(H7.out.2.2.1 x hx).1, H7.out.1.lt x hx⟩, hfl, H7.out.2.2.2.trans (hb8.mono H7.out.2.2.2.size), H7.out.2.2.2.size⟩
  have hP8 := hP.below hb8
  clear hP hf hfs hfl hb8 QM H7 HW5
  have hP := hP8
  clear hP8
  go_upto_region 5 with fail
  obtain ⟨P7, hP7⟩ : ∃ P7, P7 = w8.heap.size := ⟨_, rfl⟩
  obtain ⟨w9, hw9⟩ : ∃ w9, w9 = w8.alloc (.cells #[.pointer (some ⟨f.H, 0, none⟩), .pointer (some ⟨f.R, 0, none⟩)] 56) := ⟨_, rfl⟩
  have hb9 : Below w8.heap.size w8 w9 := by rw [hw9]; exact (Below.refl _ _).alloc (Nat.le_refl _) _
  have hQ : PrAt w9 P7 #[.pointer (some ⟨f.H, 0, none⟩), .pointer (some ⟨f.R, 0, none⟩)] := by rw [hw9, hP7]; exact PrAt_new _ _
  have hP9 := hP.below hb9
  have HB9 : Hid (Below w8.heap.size w8 w9) := hb9
  rw [← hP7, ← hw9]
  clear hP7 hw9 hb9 hP
  go_upto_region 7 with fail
  go_upto_region 8 with (first | (refine wpList_load_Pr (.tmp 7) rfl P7 _ rfl rfl hQ rfl ?_) | (refine wpList_load_Pr (.tmp 5) rfl P5 _ rfl rfl hP9 rfl ?_))
  obtain ⟨PS, hPSe⟩ : ∃ PS, PS = w9.heap.size := ⟨_, rfl⟩
  obtain ⟨wA, hwA⟩ : ∃ wA, wA = w9.alloc (.cells (psV f e5) 66) := ⟨_, rfl⟩
  have hbA : Below w9.heap.size w9 wA := by rw [hwA]; exact (Below.refl _ _).alloc (Nat.le_refl _) _
  have hPA : PsAt wA PS (psV f e5) := by rw [hwA, hPSe]; exact heap_alloc_new _ _
  have HWA : Hid (w9.alloc (.cells (psV f e5) 66) = wA ∧ w9.heap.size = PS ∧ wA.heap.size = PS + 1 ∧ Below w9.heap.size w9 wA) := ⟨hwA.symm, hPSe.symm, by rw [hwA, hPSe]; simp, hbA⟩
  have e1 : w9.alloc (.cells #[.pointer (some ⟨f.H, 0, none⟩), .pointer (some ⟨f.R, 0, none⟩), .pointer (some ⟨e5.H, 0, none⟩), .pointer (some ⟨e5.R, 0, none⟩)] 66) = wA := hwA.symm
  rw [e1, HWA.out.2.1]
  clear e1 hwA hPSe hbA hQ hP9
  go_upto_region 9 with fail
  obtain ⟨BK, hBKe⟩ : ∃ BK, BK = wA.heap.size := ⟨_, rfl⟩
  obtain ⟨wB, hwB⟩ : ∃ wB, wB = wA.alloc (.cells #[.slice none 0 0, .slice none 0 0, .slice none 0 0, .slice none 0 0] 65) := ⟨_, rfl⟩
  have hbB : Below wA.heap.size wA wB := by rw [hwB]; exact (Below.refl _ _).alloc (Nat.le_refl _) _
  have hBK := bk_new wA wB hwB
  rw [← hBKe] at hBK
  have hPS := hPA.ch (Ch.ofBelow (S := fun _ => False) hbB) id
  have HBB : Hid (Below w8.heap.size w8 wB ∧ (w8.heap.size ≤ PS ∧ PS < BK) ∧ Below W.heap.size W wB) := by
    have h1 := HB9.out
    have h2 := HWA.out
    have h3 : Below w8.heap.size w8 wB := (h1.trans (h2.2.2.2.mono h1.size)).trans (hbB.mono (Nat.le_trans h1.size h2.2.2.2.size))
    refine ⟨h3, ⟨by have := h1.size; omega, by omega⟩, H8.out.2.2.2.2.2.2.1.trans (h3.mono H8.out.2.2.2.2.2.2.1.size)⟩
  rw [← hBKe, ← hwB]
  clear hBKe hwB hbB hPA HWA HB9
  have HL : Hid (∃ (p : Nat → Ent) (sz ia ib : Nat) (b : BV), HPl W 2 p sz ia ib PS BK b wB) := by
    have g1 := H8.out
    have g2 := g1.2.2.2.2.2.2.1.size
    have g3 := HBB.out.2.1
    rcases g1.2.2.2.2.2.1 with z | z
    · subst z
      exact ⟨_, _, _, _, _, HPl.start1 (e := f) HBB.out.2.2 (g1.1.below HBB.out.1) (fun x hx => (g1.2.2.2.2.1 x hx).1) 2 g1.2.2.1 hPS (by omega) (fun q => by have h1 := g1.1.lt _ q; omega) hBK (by omega) (fun q => by have h1 := g1.1.lt _ q; omega) (by omega)⟩
    · exact ⟨_, _, _, _, _, HPl.start (e1 := f) (e2 := e5) (HBB.out.2.2) (g1.2.1.below HBB.out.1) (g1.1.below HBB.out.1) (fun x hx => Nat.le_trans g1.2.2.2.2.2.2.2 (z x hx)) (fun x hx => (g1.2.2.2.2.1 x hx).1) (fun x hx q => by have h1 := z x hx; have h2 := (g1.2.2.2.2.1 x q).2; omega) 2 g1.2.2.2.1 g1.2.2.1 hPS (by omega) (fun q => by have h1 := g1.2.1.lt _ q; omega) (fun q => by have h1 := g1.1.lt _ q; omega) hBK (by omega) (fun q => by have h1 := g1.2.1.lt _ q; omega) (fun q => by have h1 := g1.1.lt _ q; omega) (by omega)⟩
  clear hPS hBK HBB H8
  as_aux_lemma =>
    go_wp2
    go_loopw [10] (fun ix wr => ∃ k : Nat, (k ≤ len ∧ k ≤ 120) ∧ ix = .int .i64 (k : Int) ∧ Hid (∃ (p : Nat → Ent) (sz ia ib : Nat) (b : BV), HPl W (k + 2) p sz ia ib PS BK b wr)) (fun ix _ => len - (intOf ix).toNat)
    case atStart => exact ⟨0, by omega, rfl, HL⟩
    case round =>
      obtain ⟨k, hk, rfl, HH⟩ := hrel
      clear HL
      obtain ⟨p, sz, ia, ib, b, hpl⟩ := HH.out
      have H0 : Hid (HPl W (k + 2) p sz ia ib PS BK b wr) := hpl
      clear hpl HH
      by_cases hge : len ≤ k ∨ 120 ≤ k
      · by_cases h1 : len ≤ k
        · have d1 : ¬ (k : Int) < (len : Int) := by omega
          clear hge h1
          as_aux_lemma =>
            obtain ⟨ea, hea⟩ : ∃ ea, ea = p ia := ⟨_, rfl⟩
            obtain ⟨eb, heb⟩ : ∃ eb, eb = p ib := ⟨_, rfl⟩
            have HEE : Hid (ea = p ia ∧ eb = p ib) := ⟨hea, heb⟩
            have hpc := H0.out.ps
            rw [← hea, ← heb] at hpc
            have y0 : wr.cell? ⟨PS, 0, none⟩ = some (.pointer (some ⟨ea.H, 0, none⟩)) := hpc.cell 0
            have y1 : wr.cell? ⟨PS, 1, none⟩ = some (.pointer (some ⟨ea.R, 0, none⟩)) := hpc.cell 1
            have y2 : wr.cell? ⟨PS, 2, none⟩ = some (.pointer (some ⟨eb.H, 0, none⟩)) := hpc.cell 2
            have y3 : wr.cell? ⟨PS, 3, none⟩ = some (.pointer (some ⟨eb.R, 0, none⟩)) := hpc.cell 3
            have QA : Hid (Calls Try.prog 23 #[.agg #[.pointer (some ⟨ea.H, 0, none⟩), .pointer (some ⟨ea.R, 0, none⟩)], .int .i64 4, .pointer (some ⟨BK, 0, none⟩)] wr fun r w' => r = .returned (.bool true) ∧ BkE wr BK b w') := asked_any wr ea (by rw [hea]; exact H0.out.ok _ H0.out.ha) 4 BK b H0.out.bk H0.out.mb H0.out.mg (by have := H0.out.le; omega) (by have := H0.out.lg; omega)
            clear hea heb hpc
            go_wp2_with fail
            refine Calls.mono QA.out ?_
            rintro e1 w1 ⟨rfl, hm⟩
            have c1 : Ch (BB BK b) wr w1 := by obtain ⟨_, _, _, _, _, _, _, z⟩ := hm; exact z
            obtain ⟨b1, h1⟩ := H0.out.ask hm
            have H1 : Hid (HPl W (k + 3) p sz ia ib PS BK b1 w1) := h1
            have t2 := c1.cell y2 H0.out.bp
            have t3 := c1.cell y3 H0.out.bp
            have QB : Hid (Calls Try.prog 23 #[.agg #[.pointer (some ⟨eb.H, 0, none⟩), .pointer (some ⟨eb.R, 0, none⟩)], .int .i64 2, .pointer (some ⟨BK, 0, none⟩)] w1 fun r w' => r = .returned (.bool true) ∧ BkE w1 BK b1 w') := asked_any w1 eb (by rw [HEE.out.2]; exact H1.out.ok _ H1.out.hb) 2 BK b1 H1.out.bk H1.out.mb H1.out.mg (by have := H1.out.le; omega) (by have := H1.out.lg; omega)
            clear hm c1 h1 y0 y1 y2 y3 QA H0
            go_wp2_with fail
            refine Calls.mono QB.out ?_
            rintro e2 w2 ⟨rfl, hm⟩
            obtain ⟨b2, h2⟩ := H1.out.ask hm
            have H2 : Hid (HPl W (k + 4) p sz ia ib PS BK b2 w2) := h2
            have QWH : Hid _ := bookWhole_any w2 BK b2 h2.bk h2.mb h2.mg (by have := h2.le; omega) (by have := h2.lg; omega)
            clear hm h2 t2 t3 QB H1
            go_wp2_with fail
            refine Calls.mono QWH.out ?_
            rintro e3 w3 ⟨rfl, hb3⟩
            have HB3 : Hid (Below W.heap.size W w3) := (H2.out.below hb3).bel
            clear hb3 QWH H2
            go_wp2
            go_ret
            exact ⟨rfl, HB3.out⟩
        · have d1 : (k : Int) < (len : Int) := by omega
          have d2 : ¬ (k : Int) < 120 := by omega
          clear hge h1
          as_aux_lemma =>
            obtain ⟨ea, hea⟩ : ∃ ea, ea = p ia := ⟨_, rfl⟩
            obtain ⟨eb, heb⟩ : ∃ eb, eb = p ib := ⟨_, rfl⟩
            have HEE : Hid (ea = p ia ∧ eb = p ib) := ⟨hea, heb⟩
            have hpc := H0.out.ps
            rw [← hea, ← heb] at hpc
            have y0 : wr.cell? ⟨PS, 0, none⟩ = some (.pointer (some ⟨ea.H, 0, none⟩)) := hpc.cell 0
            have y1 : wr.cell? ⟨PS, 1, none⟩ = some (.pointer (some ⟨ea.R, 0, none⟩)) := hpc.cell 1
            have y2 : wr.cell? ⟨PS, 2, none⟩ = some (.pointer (some ⟨eb.H, 0, none⟩)) := hpc.cell 2
            have y3 : wr.cell? ⟨PS, 3, none⟩ = some (.pointer (some ⟨eb.R, 0, none⟩)) := hpc.cell 3
            have QA : Hid (Calls Try.prog 23 #[.agg #[.pointer (some ⟨ea.H, 0, none⟩), .pointer (some ⟨ea.R, 0, none⟩)], .int .i64 4, .pointer (some ⟨BK, 0, none⟩)] wr fun r w' => r = .returned (.bool true) ∧ BkE wr BK b w') := asked_any wr ea (by rw [hea]; exact H0.out.ok _ H0.out.ha) 4 BK b H0.out.bk H0.out.mb H0.out.mg (by have := H0.out.le; omega) (by have := H0.out.lg; omega)
            clear hea heb hpc
            go_wp2_with fail
            refine Calls.mono QA.out ?_
            rintro e1 w1 ⟨rfl, hm⟩
            have c1 : Ch (BB BK b) wr w1 := by obtain ⟨_, _, _, _, _, _, _, z⟩ := hm; exact z
            obtain ⟨b1, h1⟩ := H0.out.ask hm
            have H1 : Hid (HPl W (k + 3) p sz ia ib PS BK b1 w1) := h1
            have t2 := c1.cell y2 H0.out.bp
            have t3 := c1.cell y3 H0.out.bp
            have QB : Hid (Calls Try.prog 23 #[.agg #[.pointer (some ⟨eb.H, 0, none⟩), .pointer (some ⟨eb.R, 0, none⟩)], .int .i64 2, .pointer (some ⟨BK, 0, none⟩)] w1 fun r w' => r = .returned (.bool true) ∧ BkE w1 BK b1 w') := asked_any w1 eb (by rw [HEE.out.2]; exact H1.out.ok _ H1.out.hb) 2 BK b1 H1.out.bk H1.out.mb H1.out.mg (by have := H1.out.le; omega) (by have := H1.out.lg; omega)
            clear hm c1 h1 y0 y1 y2 y3 QA H0
            go_wp2_with fail
            refine Calls.mono QB.out ?_
            rintro e2 w2 ⟨rfl, hm⟩
            obtain ⟨b2, h2⟩ := H1.out.ask hm
            have H2 : Hid (HPl W (k + 4) p sz ia ib PS BK b2 w2) := h2
            have QWH : Hid _ := bookWhole_any w2 BK b2 h2.bk h2.mb h2.mg (by have := h2.le; omega) (by have := h2.lg; omega)
            clear hm h2 t2 t3 QB H1
            go_wp2_with fail
            refine Calls.mono QWH.out ?_
            rintro e3 w3 ⟨rfl, hb3⟩
            have HB3 : Hid (Below W.heap.size W w3) := (H2.out.below hb3).bel
            clear hb3 QWH H2
            go_wp2
            go_ret
            exact ⟨rfl, HB3.out⟩
      · have hkl : k < len := by omega
        have hk2 : k < 120 := by omega
        have d1 : (k : Int) < (len : Int) := by omega
        have d2 : (k : Int) < 120 := by omega
        have hkx : k < ops.length := by rw [HLN.out]; exact hkl
        obtain ⟨pb, po, rfl, hpb, hok, hc0, hc1, hc2, hc3, hc4⟩ := sts_at HPS.out k hkx
        obtain ⟨q, hq⟩ : ∃ q, q = ops[k]'hkx := ⟨_, rfl⟩
        rw [← hq] at hok hc0 hc1 hc2 hc3 hc4
        obtain ⟨kd, ob, off, qa, qc, qs, more⟩ := q
        simp only at hc0 hc1 hc2 hc3 hc4
        obtain ⟨qn, hqn⟩ : ∃ qn, qn = qs.length := ⟨_, rfl⟩
        rw [← hqn] at hc3
        have hbW := H0.out.bel
        have i0 : wr.cell? ⟨pb, po + k * 5, none⟩ = some (.int .i64 kd) := (World.cell?_of_block (hbW.block pb hpb)).trans hc0
        have i1 : wr.cell? ⟨pb, po + k * 5 + 1, none⟩ = some (.int .i64 ob) := (World.cell?_of_block (hbW.block pb hpb)).trans hc1
        have i2 : wr.cell? ⟨pb, po + k * 5 + 2, none⟩ = some (.int .i64 off) := (World.cell?_of_block (hbW.block pb hpb)).trans hc2
        have i3 : wr.cell? ⟨pb, po + k * 5 + 3, none⟩ = some (.slice qa qn qc) := (World.cell?_of_block (hbW.block pb hpb)).trans hc3
        have i4 : wr.cell? ⟨pb, po + k * 5 + 4, none⟩ = some (.bool more) := (World.cell?_of_block (hbW.block pb hpb)).trans hc4
        have HQN : Hid (qs.length = qn) := hqn.symm
        have HQC : Hid (qn ≤ qc) := by rw [hqn]; exact hok.le
        have HQS : Hid (Seg .u8 W qa (toI qs)) := hok.seg
        have HQ8 : Hid (∀ x ∈ qs, x < 256) := hok.b8
        clear hge hok hc0 hc1 hc2 hc3 hc4 hq hqn hkx hbW hkl
        go_upto_region 13 with fail
        obtain ⟨P, hP⟩ : ∃ P, P = wr.heap.size := ⟨_, rfl⟩
        obtain ⟨w1, hw1⟩ : ∃ w1, w1 = wr.alloc (.cells #[.int .i64 kd, .int .i64 ob, .int .i64 off, .slice qa qn qc, .bool more] 68) := ⟨_, rfl⟩
        have hb1 : Below wr.heap.size wr w1 := by rw [hw1]; exact (Below.refl _ _).alloc (Nat.le_refl _) _
        have hBx : w1.heap[P]? = some (.cells #[.int .i64 kd, .int .i64 ob, .int .i64 off, .slice qa qn qc, .bool more] 68 (0, 0)) := by rw [hw1, hP]; exact heap_alloc_new _ _
        have hcx : ∀ j, w1.cell? ⟨P, j, none⟩ = (#[.int .i64 kd, .int .i64 ob, .int .i64 off, .slice qa qn qc, .bool more] : Array Value)[j]? := by intro j; simp [World.cell?, hBx]
        have x0 := hcx 0
        have x1 := hcx 1
        have x2 := hcx 2
        have x3 := hcx 3
        have x4 := hcx 4
        have hP1 : P < w1.heap.size := by rw [hw1, hP]; simp
        have H1 : Hid (HPl W (k + 2) p sz ia ib PS BK b w1) := H0.out.below hb1
        have HNB : Hid (¬ BB BK b P) := fun q => by have := H0.out.bk.lt P q; omega
        have HNA : Hid (∀ i, i < sz → ¬ EB (p i) P) := fun i hi q => by have := (H0.out.ok i hi).lt P q; omega
        rw [← hP, ← hw1]
        clear hP hw1 hb1 hBx hcx H0 i0 i1 i2 i3 i4
        simp only [List.getElem?_toArray, List.getElem?_cons_zero, List.getElem?_cons_succ] at x0 x1 x2 x3 x4
        have ha := and1 ob
        obtain ⟨o, ho, ho2⟩ : ∃ o : Nat, (o : Int) = ob % 2 ∧ o < 2 := ⟨(ob % 2).toNat, by omega, by omega⟩
        have ha2 : bits .and .i64 ob 1 = (o : Int) := by rw [ha, ho]
        have ho3 : (o : Int) < 2 := by omega
        clear ha ho
        obtain ⟨jo, hjo⟩ : ∃ jo, jo = if o = 0 then ia else ib := ⟨_, rfl⟩
        have HEI : Hid (jo < sz) := by
          show _ < _
          rw [hjo]
          split
          · exact H1.out.ha
          · exact H1.out.hb
        obtain ⟨eo, heo⟩ : ∃ eo, eo = p jo := ⟨_, rfl⟩
        have HEO : Hid (eo = p jo) := heo
        have HNP : Hid (¬ EB (p jo) P) := HNA.out jo HEI.out
        have hpc : w1.cell? ⟨PS, o * 2, none⟩ = some (.pointer (some ⟨eo.H, 0, none⟩)) ∧ w1.cell? ⟨PS, o * 2 + 1, none⟩ = some (.pointer (some ⟨eo.R, 0, none⟩)) := by
          have hp := H1.out.ps
          rw [heo, hjo]
          match o, ho2 with
          | 0, _ => exact ⟨hp.cell 0, hp.cell 1⟩
          | 1, _ => exact ⟨hp.cell 2, hp.cell 3⟩
        have hS1 : w1.cell? ⟨P, 0, none⟩ = some (.int .i64 kd) ∧ w1.cell? ⟨P, 2, none⟩ = some (.int .i64 off) ∧ w1.cell? ⟨P, 3, none⟩ = some (.slice qa qn qc) ∧ w1.cell? ⟨P, 4, none⟩ = some (.bool more) ∧ (w1.cell? ⟨PS, o * 2, none⟩ = some (.pointer (some ⟨eo.H, 0, none⟩)) ∧ w1.cell? ⟨PS, o * 2 + 1, none⟩ = some (.pointer (some ⟨eo.R, 0, none⟩))) := ⟨x0, x2, x3, x4, hpc⟩
        have HJO : Hid (jo = if o = 0 then ia else ib) := hjo
        clear heo hjo hpc x2 x3 x4 HNA
        by_cases k1 : kd = 1
        · subst k1
          as_aux_lemma =>
            have f1 : ((1 : Int) == 1) = true := rfl
            obtain ⟨d, hd⟩ : ∃ d, d = qs.take 4096 := ⟨_, rfl⟩
            obtain ⟨n, hn⟩ : ∃ n, n = d.length := ⟨_, rfl⟩
            have hn4 : n ≤ 65536 := by rw [hn, hd, List.length_take]; omega
            have HD8 : Hid (∀ x, x ∈ d → x < 256) := by rw [hd]; exact fun x hx => HQ8.out x (List.mem_of_mem_take hx)
            have QC : Hid (∀ A : World, Below W.heap.size W A → Calls Try.prog 10 #[.slice qa qn qc] A fun r w' => ∃ ua uc, r = .returned (.slice ua n uc) ∧ w'.ownsRow A.heap.size 5 1 (.slice ua n uc) n ((toI d).map (Value.int .u8)) ∧ Below A.heap.size A w') := by
              intro A hA
              have := cut_any A qa qn qc qs HQN.out HQC.out (HQS.out.old hA)
              rw [← hd, ← hn] at this
              exact this
            have HN : Hid (d.length = n) := hn.symm
            clear hd hn HQS HQC HQN HQ8
            go_upto_region 17 with fail
            refine MixH.start (fun A => A.cell? ⟨P, 0, none⟩ = some (.int .i64 1) ∧ A.cell? ⟨P, 2, none⟩ = some (.int .i64 off) ∧ A.cell? ⟨P, 3, none⟩ = some (.slice qa qn qc) ∧ A.cell? ⟨P, 4, none⟩ = some (.bool more) ∧ (A.cell? ⟨PS, o * 2, none⟩ = some (.pointer (some ⟨eo.H, 0, none⟩)) ∧ A.cell? ⟨PS, o * 2 + 1, none⟩ = some (.pointer (some ⟨eo.R, 0, none⟩)))) (by kernel_rfl) ?_
            obtain ⟨wA, hwA⟩ : ∃ wA, wA = w1.drew := ⟨_, rfl⟩
            have hS : wA.cell? ⟨P, 0, none⟩ = some (.int .i64 1) ∧ wA.cell? ⟨P, 2, none⟩ = some (.int .i64 off) ∧ wA.cell? ⟨P, 3, none⟩ = some (.slice qa qn qc) ∧ wA.cell? ⟨P, 4, none⟩ = some (.bool more) ∧ (wA.cell? ⟨PS, o * 2, none⟩ = some (.pointer (some ⟨eo.H, 0, none⟩)) ∧ wA.cell? ⟨PS, o * 2 + 1, none⟩ = some (.pointer (some ⟨eo.R, 0, none⟩))) := by rw [hwA]; exact hS1
            have hbd : Below w1.heap.size w1 w1.drew := drew_below (Below.refl _ _)
            have HA : Hid (HPl W (k + 2) p sz ia ib PS BK b wA) := by rw [hwA]; exact H1.out.below hbd
            have hPA : P < wA.heap.size := by rw [hwA]; exact hP1
            rw [← hwA]
            clear hwA hbd hS1 H1 hP1
            refine MixH.takes [true, true] 10 (by kernel_rfl) (by kernel_rfl) (by decide) (by kernel_rfl) hS (fun K hK => ?_)
            simp only [Mix.pick]
            repeat (go_big_quiet_step (fail))
            refine wpQuiet_nil (hK _ ?_)
            clear hK K
            refine MixH.take 9 2 _ (.agg #[.pointer (some ⟨eo.H, 0, none⟩), .pointer (some ⟨eo.R, 0, none⟩)]) rfl (by kernel_rfl) (by kernel_rfl) (by kernel_rfl) (by kernel_rfl) (yields_pr (.tmp 86) rfl PS (o * 2) _ _ rfl rfl (fun A hA => hA.2.2.2.2)) hS (fun a' ha => ?_)
            simp only [Act.put, List.setIfInBounds_toArray, List.set_cons_succ, List.set_cons_zero] at ha
            subst ha
            refine MixH.takes [false, false, false, true] 8 (by kernel_rfl) (by kernel_rfl) (by decide) (by kernel_rfl) hS (fun K hK => ?_)
            simp only [Mix.pick]
            repeat (go_big_quiet_step (fail))
            refine wpQuiet_nil (hK _ ?_)
            clear hK K
            refine MixH.take 7 4 _ (.int .i64 off) rfl (by kernel_rfl) (by kernel_rfl) (by kernel_rfl) (by kernel_rfl) (yields_int (.tmp 88) rfl ⟨P, 2, none⟩ _ rfl rfl (fun A hA => hA.2.1)) hS (fun a' ha => ?_)
            simp only [Act.put, List.setIfInBounds_toArray, List.set_cons_succ, List.set_cons_zero] at ha
            subst ha
            refine MixH.takes [false, false, false, false, false, true] 6 (by kernel_rfl) (by kernel_rfl) (by decide) (by kernel_rfl) hS (fun K hK => ?_)
            simp only [Mix.pick]
            repeat (go_big_quiet_step (fail))
            refine wpQuiet_nil (hK _ ?_)
            clear hK K
            refine MixH.take 5 6 _ (.slice qa qn qc) rfl (by kernel_rfl) (by kernel_rfl) (by kernel_rfl) (by kernel_rfl) (yields_bytes (.tmp 90) rfl ⟨P, 3, none⟩ _ rfl rfl (fun A hA => hA.2.2.1)) hS (fun a' ha => ?_)
            simp only [Act.put, List.setIfInBounds_toArray, List.set_cons_succ, List.set_cons_zero] at ha
            subst ha
            refine MixH.takes [false, false, false, false, false, false, false, false, true] 4 (by kernel_rfl) (by kernel_rfl) (by decide) (by kernel_rfl) hS (fun K hK => ?_)
            simp only [Mix.pick]
            repeat (go_big_quiet_step (fail))
            refine wpQuiet_nil (hK _ ?_)
            clear hK K
            refine MixH.take 3 9 _ (.bool more) rfl (by kernel_rfl) (by kernel_rfl) (by kernel_rfl) (by kernel_rfl) (yields_bool (.tmp 93) rfl ⟨P, 4, none⟩ _ rfl rfl (fun A hA => hA.2.2.2.1)) hS (fun a' ha => ?_)
            simp only [Act.put, List.setIfInBounds_toArray, List.set_cons_succ, List.set_cons_zero] at ha
            subst ha
            refine MixH.one [false, false, false, false, false, false, false, true] 2 7 _ rfl rfl (by kernel_rfl) (by kernel_rfl) (fun K hK => ?_)
            simp only [Mix.pick]
            go_wp2_with fail
            refine Calls.mono (QC.out wA HA.out.bel) ?_
            rintro e7 w5 ⟨ua, uc, rfl, ho5, hb5⟩
            have H5 : Hid (HPl W (k + 2) p sz ia ib PS BK b w5 ∧ w5.ownsRow wA.heap.size 5 1 (.slice ua n uc) n ((toI d).map (Value.int .u8))) := ⟨HA.out.below hb5, ho5⟩
            have c5 : Ch (fun _ => False) wA w5 := Ch.ofBelow hb5
            have NP : ¬ (fun _ : Nat => False) P := id
            have NPS : ¬ (fun _ : Nat => False) PS := id
            have hS' : w5.cell? ⟨P, 0, none⟩ = some (.int .i64 1) ∧ w5.cell? ⟨P, 2, none⟩ = some (.int .i64 off) ∧ w5.cell? ⟨P, 3, none⟩ = some (.slice qa qn qc) ∧ w5.cell? ⟨P, 4, none⟩ = some (.bool more) ∧ (w5.cell? ⟨PS, o * 2, none⟩ = some (.pointer (some ⟨eo.H, 0, none⟩)) ∧ w5.cell? ⟨PS, o * 2 + 1, none⟩ = some (.pointer (some ⟨eo.R, 0, none⟩))) := ⟨c5.cell hS.1 NP, c5.cell hS.2.1 NP, c5.cell hS.2.2.1 NP, c5.cell hS.2.2.2.1 NP, c5.cell hS.2.2.2.2.1 NPS, c5.cell hS.2.2.2.2.2 NPS⟩
            have hP5 : P < w5.heap.size := Nat.lt_of_lt_of_le hPA hb5.size
            clear hS c5 NP NPS ho5 hb5
            have hS := hS'
            clear hS'
            go_wp2
            refine ⟨rfl, hK _ _ hS ?_⟩
            clear hK K
            refine MixH.one [false, false, false, false, false, false, false, false, false, false, true] 1 10 _ rfl rfl (by kernel_rfl) (by kernel_rfl) (fun K hK => ?_)
            simp only [Mix.pick]
            have QP : Hid _ := put_w w5 n uc HN.out hn4 HD8.out more off eo (by rw [HEO.out]; exact H5.out.1.ok _ HEI.out) (by rw [HEO.out]; have := H5.out.1.tk _ HEI.out; omega) H5.out.2 (fun x hx => by rw [HEO.out] at hx; exact (HA.out.ok _ HEI.out).lt x hx)
            go_wp2_with fail
            refine Calls.mono QP.out ?_
            rintro e8 w6 ⟨rfl, hm⟩
            obtain ⟨p', h6⟩ := H5.out.1.put jo HEI.out (by rw [← HEO.out]; exact hm) (pS_tk1 _ _ _ _ (by have := H5.out.1.tk _ HEI.out; rw [HEO.out]; exact this))
            have H6 : Hid (∃ (p : Nat → Ent) (sz ia ib : Nat) (b : BV), HPl W (k + 3) p sz ia ib PS BK b w6) := ⟨_, _, _, _, _, h6⟩
            have c6 : Ch (EB eo) w5 w6 := by obtain ⟨_, _, _, _, _, _, z⟩ := hm; exact z
            have NP : ¬ EB eo P := fun q => HNP.out (by rw [← HEO.out]; exact q)
            have NPS : ¬ EB eo PS := by rw [HEO.out]; exact H5.out.1.psn _ HEI.out
            have hS' : w6.cell? ⟨P, 0, none⟩ = some (.int .i64 1) ∧ w6.cell? ⟨P, 2, none⟩ = some (.int .i64 off) ∧ w6.cell? ⟨P, 3, none⟩ = some (.slice qa qn qc) ∧ w6.cell? ⟨P, 4, none⟩ = some (.bool more) ∧ (w6.cell? ⟨PS, o * 2, none⟩ = some (.pointer (some ⟨eo.H, 0, none⟩)) ∧ w6.cell? ⟨PS, o * 2 + 1, none⟩ = some (.pointer (some ⟨eo.R, 0, none⟩))) := ⟨c6.cell hS.1 NP, c6.cell hS.2.1 NP, c6.cell hS.2.2.1 NP, c6.cell hS.2.2.2.1 NP, c6.cell hS.2.2.2.2.1 NPS, c6.cell hS.2.2.2.2.2 NPS⟩
            clear hS c6 NP NPS h6 hm QP
            have hS := hS'
            clear hS'
            go_wp2
            refine ⟨rfl, hK _ _ hS ?_⟩
            clear hK K
            refine MixH.takes [false, false, false, false, false, false, false, false, false, false, false, true] 0 (by kernel_rfl) (by kernel_rfl) (by decide) (by kernel_rfl) hS (fun K hK => ?_)
            simp only [Mix.pick]
            repeat (go_big_quiet_step (fail))
            refine wpQuiet_nil (hK _ ?_)
            clear hK K
            refine MixH.done (by kernel_rfl) ?_
            clear hS
            have H7 := H6
            clear H6 H5 HA hPA hP5
            obtain ⟨p7, sz7, ia7, ib7, b7, h7⟩ := H7.out
            have H8 : Hid (HPl W (k + 3) p7 sz7 ia7 ib7 PS BK b7 w6) := h7
            have QWH : Hid _ := bookWhole_any w6 BK b7 h7.bk h7.mb h7.mg (by have := h7.le; omega) (by have := h7.lg; omega)
            clear h7 H7
            go_wp2_with fail
            refine Calls.mono QWH.out ?_
            rintro e9 w9 ⟨rfl, hb9⟩
            have H9 : Hid (∃ (p : Nat → Ent) (sz ia ib : Nat) (b : BV), HPl W (k + 3) p sz ia ib PS BK b w9) := ⟨_, _, _, _, _, H8.out.below hb9⟩
            clear hb9 QWH H8
            go_wp2
            go_roundw
            case rel => exact ⟨k + 1, by omega, by go_num, H9⟩
            case measure => simp [intOf]; omega
        · have n1 : (kd == 1) = false := by rw [beq_eq_false_iff_ne]; exact k1
          by_cases k6 : kd = 6
          · subst k6
            as_aux_lemma =>
              obtain ⟨i0, hi0, hz0, hz1, hz2⟩ := info_parts Try.infoByte
              obtain ⟨dd, hd1, hd2, hd3⟩ := long_row
              have HDD : Hid (dd.length = 65536 ∧ (∀ x, x ∈ dd → x < 256) ∧ (toI dd).map (Value.int .u8) = (madeCells #[Value.int .u8 0] 65536).toList) := ⟨hd1, hd2, hd3⟩
              clear hd1 hd2 hd3
              clear HQS HQC HQN HQ8
              go_upto_region 19 with fail
              refine MixH.start (fun A => A.cell? ⟨P, 0, none⟩ = some (.int .i64 6) ∧ A.cell? ⟨P, 2, none⟩ = some (.int .i64 off) ∧ A.cell? ⟨P, 3, none⟩ = some (.slice qa qn qc) ∧ A.cell? ⟨P, 4, none⟩ = some (.bool more) ∧ (A.cell? ⟨PS, o * 2, none⟩ = some (.pointer (some ⟨eo.H, 0, none⟩)) ∧ A.cell? ⟨PS, o * 2 + 1, none⟩ = some (.pointer (some ⟨eo.R, 0, none⟩)))) (by kernel_rfl) ?_
              obtain ⟨wA, hwA⟩ : ∃ wA, wA = w1.drew := ⟨_, rfl⟩
              have hS : wA.cell? ⟨P, 0, none⟩ = some (.int .i64 6) ∧ wA.cell? ⟨P, 2, none⟩ = some (.int .i64 off) ∧ wA.cell? ⟨P, 3, none⟩ = some (.slice qa qn qc) ∧ wA.cell? ⟨P, 4, none⟩ = some (.bool more) ∧ (wA.cell? ⟨PS, o * 2, none⟩ = some (.pointer (some ⟨eo.H, 0, none⟩)) ∧ wA.cell? ⟨PS, o * 2 + 1, none⟩ = some (.pointer (some ⟨eo.R, 0, none⟩))) := by rw [hwA]; exact hS1
              have hbd : Below w1.heap.size w1 w1.drew := drew_below (Below.refl _ _)
              have HA : Hid (HPl W (k + 2) p sz ia ib PS BK b wA) := by rw [hwA]; exact H1.out.below hbd
              have hPA : P < wA.heap.size := by rw [hwA]; exact hP1
              rw [← hwA]
              clear hwA hbd hS1 H1 hP1
              refine MixH.takes [true, true] 8 (by kernel_rfl) (by kernel_rfl) (by decide) (by kernel_rfl) hS (fun K hK => ?_)
              simp only [Mix.pick]
              repeat (go_big_quiet_step (fail))
              refine wpQuiet_nil (hK _ ?_)
              clear hK K
              refine MixH.take 7 2 _ (.agg #[.pointer (some ⟨eo.H, 0, none⟩), .pointer (some ⟨eo.R, 0, none⟩)]) rfl (by kernel_rfl) (by kernel_rfl) (by kernel_rfl) (by kernel_rfl) (yields_pr (.tmp 99) rfl PS (o * 2) _ _ rfl rfl (fun A hA => hA.2.2.2.2)) hS (fun a' ha => ?_)
              simp only [Act.put, List.setIfInBounds_toArray, List.set_cons_succ, List.set_cons_zero] at ha
              subst ha
              refine MixH.takes [false, false, false, true] 6 (by kernel_rfl) (by kernel_rfl) (by decide) (by kernel_rfl) hS (fun K hK => ?_)
              simp only [Mix.pick]
              repeat (go_big_quiet_step (fail))
              refine wpQuiet_nil (hK _ ?_)
              clear hK K
              refine MixH.take 5 4 _ (.int .i64 off) rfl (by kernel_rfl) (by kernel_rfl) (by kernel_rfl) (by kernel_rfl) (yields_int (.tmp 101) rfl ⟨P, 2, none⟩ _ rfl rfl (fun A hA => hA.2.1)) hS (fun a' ha => ?_)
              simp only [Act.put, List.setIfInBounds_toArray, List.set_cons_succ, List.set_cons_zero] at ha
              subst ha
              refine MixH.takes [false, false, false, false, false, false, true] 4 (by kernel_rfl) (by kernel_rfl) (by decide) (by kernel_rfl) hS (fun K hK => ?_)
              simp only [Mix.pick]
              repeat (go_big_quiet_step (fail))
              refine wpQuiet_nil (hK _ ?_)
              clear hK K
              refine MixH.take 3 7 _ (.bool more) rfl (by kernel_rfl) (by kernel_rfl) (by kernel_rfl) (by kernel_rfl) (yields_bool (.tmp 104) rfl ⟨P, 4, none⟩ _ rfl rfl (fun A hA => hA.2.2.2.1)) hS (fun a' ha => ?_)
              simp only [Act.put, List.setIfInBounds_toArray, List.set_cons_succ, List.set_cons_zero] at ha
              subst ha
              refine MixH.one [false, false, false, false, false, true] 2 5 _ rfl rfl (by kernel_rfl) (by kernel_rfl) (fun K hK => ?_)
              simp only [Mix.pick]
              go_wp2_with (first | (at_make; refine wpList_make_full _ rfl _ _ 22 rfl wA.heap.size 5 i0 _ 1 Try.underlying22 hi0 hz0 hz1 _ _ _ _ 65536 rfl rfl rfl rfl (by rw [hz2]; omega) (by unfold maxLen; omega) (Nat.le_refl _) ?_))
              intro w5 r1 r2
              have hb5 : Below wA.heap.size wA w5 := (Below.refl _ _).grown r2 (Nat.le_refl _) (by intro q hq; simp at hq)
              have ho5 : w5.ownsRow wA.heap.size 5 1 (.slice (some ⟨wA.heap.size, 0, none⟩) 65536 65536) 65536 ((toI dd).map (Value.int .u8)) := by
                rw [HDD.out.2.2]
                exact r1
              obtain ⟨X5, hX5⟩ : ∃ X5, X5 = wA.heap.size := ⟨_, rfl⟩
              rw [← hX5] at ho5
              have H5 : Hid (HPl W (k + 2) p sz ia ib PS BK b w5 ∧ w5.ownsRow wA.heap.size 5 1 (.slice (some ⟨X5, 0, none⟩) 65536 65536) 65536 ((toI dd).map (Value.int .u8))) := ⟨HA.out.below hb5, by rw [← hX5]; exact ho5⟩
              have c5 : Ch (fun _ => False) wA w5 := Ch.ofBelow hb5
              have NP : ¬ (fun _ : Nat => False) P := id
              have NPS : ¬ (fun _ : Nat => False) PS := id
              have hS' : w5.cell? ⟨P, 0, none⟩ = some (.int .i64 6) ∧ w5.cell? ⟨P, 2, none⟩ = some (.int .i64 off) ∧ w5.cell? ⟨P, 3, none⟩ = some (.slice qa qn qc) ∧ w5.cell? ⟨P, 4, none⟩ = some (.bool more) ∧ (w5.cell? ⟨PS, o * 2, none⟩ = some (.pointer (some ⟨eo.H, 0, none⟩)) ∧ w5.cell? ⟨PS, o * 2 + 1, none⟩ = some (.pointer (some ⟨eo.R, 0, none⟩))) := ⟨c5.cell hS.1 NP, c5.cell hS.2.1 NP, c5.cell hS.2.2.1 NP, c5.cell hS.2.2.2.1 NP, c5.cell hS.2.2.2.2.1 NPS, c5.cell hS.2.2.2.2.2 NPS⟩
              have hP5 : P < w5.heap.size := Nat.lt_of_lt_of_le hPA hb5.size
              rw [← hX5]
              clear hS c5 NP NPS ho5 hb5 r1 r2 hX5
              have hS := hS'
              clear hS'
              (try go_wp2)
              refine ⟨rfl, hK _ _ hS ?_⟩
              clear hK K
              refine MixH.one [false, false, false, false, false, false, false, false, true] 1 8 _ rfl rfl (by kernel_rfl) (by kernel_rfl) (fun K hK => ?_)
              simp only [Mix.pick]
              have QP : Hid _ := put_w w5 65536 65536 HDD.out.1 (Nat.le_refl _) HDD.out.2.1 more off eo (by rw [HEO.out]; exact H5.out.1.ok _ HEI.out) (by rw [HEO.out]; have := H5.out.1.tk _ HEI.out; omega) H5.out.2 (fun x hx => by rw [HEO.out] at hx; exact (HA.out.ok _ HEI.out).lt x hx)
              go_wp2_with fail
              refine Calls.mono QP.out ?_
              rintro e8 w6 ⟨rfl, hm⟩
              obtain ⟨p', h6⟩ := H5.out.1.put jo HEI.out (by rw [← HEO.out]; exact hm) (pS_tk1 _ _ _ _ (by have := H5.out.1.tk _ HEI.out; rw [HEO.out]; exact this))
              have H6 : Hid (∃ (p : Nat → Ent) (sz ia ib : Nat) (b : BV), HPl W (k + 3) p sz ia ib PS BK b w6) := ⟨_, _, _, _, _, h6⟩
              have c6 : Ch (EB eo) w5 w6 := by obtain ⟨_, _, _, _, _, _, z⟩ := hm; exact z
              have NP : ¬ EB eo P := fun q => HNP.out (by rw [← HEO.out]; exact q)
              have NPS : ¬ EB eo PS := by rw [HEO.out]; exact H5.out.1.psn _ HEI.out
              have hS' : w6.cell? ⟨P, 0, none⟩ = some (.int .i64 6) ∧ w6.cell? ⟨P, 2, none⟩ = some (.int .i64 off) ∧ w6.cell? ⟨P, 3, none⟩ = some (.slice qa qn qc) ∧ w6.cell? ⟨P, 4, none⟩ = some (.bool more) ∧ (w6.cell? ⟨PS, o * 2, none⟩ = some (.pointer (some ⟨eo.H, 0, none⟩)) ∧ w6.cell? ⟨PS, o * 2 + 1, none⟩ = some (.pointer (some ⟨eo.R, 0, none⟩))) := ⟨c6.cell hS.1 NP, c6.cell hS.2.1 NP, c6.cell hS.2.2.1 NP, c6.cell hS.2.2.2.1 NP, c6.cell hS.2.2.2.2.1 NPS, c6.cell hS.2.2.2.2.2 NPS⟩
              clear hS c6 NP NPS h6 hm QP
              have hS := hS'
              clear hS'
              go_wp2
              refine ⟨rfl, hK _ _ hS ?_⟩
              clear hK K
              refine MixH.takes [false, false, false, false, false, false, false, false, false, true] 0 (by kernel_rfl) (by kernel_rfl) (by decide) (by kernel_rfl) hS (fun K hK => ?_)
              simp only [Mix.pick]
              repeat (go_big_quiet_step (fail))
              refine wpQuiet_nil (hK _ ?_)
              clear hK K
              refine MixH.done (by kernel_rfl) ?_
              clear hS
              have H7 := H6
              clear H6 H5 HA hPA hP5 hi0 hz0 hz1 hz2
              obtain ⟨p7, sz7, ia7, ib7, b7, h7⟩ := H7.out
              have H8 : Hid (HPl W (k + 3) p7 sz7 ia7 ib7 PS BK b7 w6) := h7
              have QWH : Hid _ := bookWhole_any w6 BK b7 h7.bk h7.mb h7.mg (by have := h7.le; omega) (by have := h7.lg; omega)
              clear h7 H7
              go_wp2_with fail
              refine Calls.mono QWH.out ?_
              rintro e9 w9 ⟨rfl, hb9⟩
              have H9 : Hid (∃ (p : Nat → Ent) (sz ia ib : Nat) (b : BV), HPl W (k + 3) p sz ia ib PS BK b w9) := ⟨_, _, _, _, _, H8.out.below hb9⟩
              clear hb9 QWH H8
              go_wp2
              go_roundw
              case rel => exact ⟨k + 1, by omega, by go_num, H9⟩
              case measure => simp [intOf]; omega
          · have n6 : (kd == 6) = false := by rw [beq_eq_false_iff_ne]; exact k6
            by_cases k5 : kd = 5
            · subst k5
              as_aux_lemma =>
                clear HQS HQC HQN HQ8
                go_upto_region 21 with fail
                refine MixL.start (fun A => A.cell? ⟨P, 2, none⟩ = some (.int .i64 off) ∧ (A.cell? ⟨PS, o * 2, none⟩ = some (.pointer (some ⟨eo.H, 0, none⟩)) ∧ A.cell? ⟨PS, o * 2 + 1, none⟩ = some (.pointer (some ⟨eo.R, 0, none⟩)))) 11 (by kernel_rfl) ?_
                obtain ⟨wA, hwA⟩ : ∃ wA, wA = w1.drew := ⟨_, rfl⟩
                have hS : wA.cell? ⟨P, 2, none⟩ = some (.int .i64 off) ∧ (wA.cell? ⟨PS, o * 2, none⟩ = some (.pointer (some ⟨eo.H, 0, none⟩)) ∧ wA.cell? ⟨PS, o * 2 + 1, none⟩ = some (.pointer (some ⟨eo.R, 0, none⟩))) := by rw [hwA]; exact ⟨hS1.2.1, hS1.2.2.2.2⟩
                have hbd : Below w1.heap.size w1 w1.drew := drew_below (Below.refl _ _)
                have HA : Hid (HPl W (k + 2) p sz ia ib PS BK b wA) := by rw [hwA]; exact H1.out.below hbd
                rw [← hwA]
                clear hwA hbd hS1 H1 hP1
                refine MixL.takes [true, true] 11 (by kernel_rfl) (by kernel_rfl) (by decide) (by kernel_rfl) (by kernel_rfl) (by kernel_rfl) (hS) (fun K hK => ?_)
                simp only [Mix.pick]
                repeat (go_big_quiet_step (fail))
                refine wpQuiet_nil (hK _ ?_)
                clear hK K
                refine MixL.take 10 2 _ (.int .i64 off) rfl (by kernel_rfl) (by kernel_rfl) (by kernel_rfl) (by kernel_rfl) (by kernel_rfl) (by kernel_rfl) (by kernel_rfl) (yields_int (.tmp 111) rfl ⟨P, 2, none⟩ _ rfl rfl (fun A hA => hA.1)) (hS) (fun a' ha => ?_)
                simp only [Act.put, List.setIfInBounds_toArray, List.set_cons_succ, List.set_cons_zero] at ha
                subst ha
                refine MixL.takes [false, false, false, true, true] 8 (by kernel_rfl) (by kernel_rfl) (by decide) (by kernel_rfl) (by kernel_rfl) (by kernel_rfl) (hS) (fun K hK => ?_)
                simp only [Mix.pick]
                repeat (go_big_quiet_step (fail))
                refine wpQuiet_nil (hK _ ?_)
                clear hK K
                refine MixL.take 7 5 _ (.agg #[.pointer (some ⟨eo.H, 0, none⟩), .pointer (some ⟨eo.R, 0, none⟩)]) rfl (by kernel_rfl) (by kernel_rfl) (by kernel_rfl) (by kernel_rfl) (by kernel_rfl) (by kernel_rfl) (by kernel_rfl) (yields_pr (.tmp 114) rfl PS (o * 2) _ _ rfl rfl (fun A hA => hA.2)) (hS) (fun a' ha => ?_)
                simp only [Act.put, List.setIfInBounds_toArray, List.set_cons_succ, List.set_cons_zero] at ha
                subst ha
                have QM : Hid _ := made_u wA off eo
                refine MixL.many [6] 6 (by kernel_rfl) (by decide) (by kernel_rfl) ?_
                intro i hi
                simp only [List.mem_cons, List.not_mem_nil, or_false] at hi
                subst hi
                refine ⟨_, rfl, fun K hK => ?_⟩
                go_wp2_with fail
                refine Calls.mono QM.out ?_
                rintro e7 w5 ⟨f, rfl, hm⟩
                have H5 : Hid (MdR wA eo f w5 ∧ HPl W (k + 2) p sz ia ib PS BK b w5) := ⟨hm, HA.out.below hm.1⟩
                have hS' : w5.cell? ⟨P, 2, none⟩ = some (.int .i64 off) ∧ (w5.cell? ⟨PS, o * 2, none⟩ = some (.pointer (some ⟨eo.H, 0, none⟩)) ∧ w5.cell? ⟨PS, o * 2 + 1, none⟩ = some (.pointer (some ⟨eo.R, 0, none⟩))) := ⟨(World.cell?_of_block (hm.1.block P (World.block_lt_of_cell? _ _ hS.1))).trans hS.1, (World.cell?_of_block (hm.1.block PS (World.block_lt_of_cell? _ _ hS.2.1))).trans hS.2.1, (World.cell?_of_block (hm.1.block PS (World.block_lt_of_cell? _ _ hS.2.2))).trans hS.2.2⟩
                clear hm hS QM
                have hS := hS'
                clear hS'
                go_wp2
                refine ⟨rfl, hK _ _ (fun _ => hS) ?_⟩
                clear hK K
                refine MixL.takes [false, false, false, false, false, false, false, true, true] 4 (by kernel_rfl) (by kernel_rfl) (by decide) (by kernel_rfl) (by kernel_rfl) (by kernel_rfl) (hS) (fun K hK => ?_)
                simp only [Mix.pick]
                repeat (go_big_quiet_step (fail))
                refine wpQuiet_nil (hK _ ?_)
                clear hK K
                refine MixL.takes [false, false, false, false, false, false, false, false, false, false, true] 3 (by kernel_rfl) (by kernel_rfl) (by decide) (by kernel_rfl) (by kernel_rfl) (by kernel_rfl) (hS) (fun K hK => ?_)
                simp only [Mix.pick]
                repeat (go_big_quiet_step (fail))
                refine wpQuiet_nil (hK _ ?_)
                clear hK K
                refine MixL.many [9, 11] 2 (by kernel_rfl) (by decide) (by kernel_rfl) ?_
                intro i hi
                simp only [List.mem_cons, List.not_mem_nil, or_false] at hi
                rcases hi with rfl | rfl
                · refine ⟨_, rfl, fun K hK => ?_⟩
                  go_wp2
                  refine ⟨rfl, hK _ _ (fun _ => hS) ?_⟩
                  clear hK K
                  refine MixL.many [11] 1 (by kernel_rfl) (by decide) (by kernel_rfl) ?_
                  intro i hi
                  simp only [List.mem_cons, List.not_mem_nil, or_false] at hi
                  subst hi
                  refine ⟨_, rfl, fun K hK => ?_⟩
                  have y0 := hS.2.1
                  have y1 := hS.2.2
                  have z0 := H5.out.2.ps.fz (o * 2)
                  have z1 := H5.out.2.ps.fz (o * 2 + 1)
                  go_wp2
                  refine ⟨rfl, hK _ _ (fun q => absurd (q.symm.trans (by kernel_rfl)) Bool.false_ne_true) ?_⟩
                  clear hK K
                  obtain ⟨p6, sz6, ia6, ib6, h6⟩ := HA.out.made ho2 (by rw [← HJO.out, ← HEO.out]; exact H5.out.1)
                  obtain ⟨w6, hw6⟩ : ∃ w6, w6 = (w5.setCell ⟨PS, o * 2, none⟩ (.pointer (some ⟨f.H, 0, none⟩))).setCell ⟨PS, o * 2 + 1, none⟩ (.pointer (some ⟨f.R, 0, none⟩)) := ⟨_, rfl⟩
                  rw [← hw6] at h6 ⊢
                  have H7 : Hid (∃ (p : Nat → Ent) (sz ia ib : Nat) (b : BV), HPl W (k + 3) p sz ia ib PS BK b w6) := ⟨_, _, _, _, _, h6⟩
                  clear h6 hw6 hS y0 y1 z0 z1 H5 HA
                  refine MixL.many [12] 0 (by kernel_rfl) (by decide) (by kernel_rfl) ?_
                  intro i hi
                  simp only [List.mem_cons, List.not_mem_nil, or_false] at hi
                  subst hi
                  refine ⟨_, rfl, fun K hK => ?_⟩
                  go_wp2
                  refine ⟨rfl, hK _ _ (fun q => absurd (q.symm.trans (by kernel_rfl)) Bool.false_ne_true) ?_⟩
                  clear hK K
                  refine MixL.done (by kernel_rfl) ?_
                  obtain ⟨p7, sz7, ia7, ib7, b7, h7⟩ := H7.out
                  have H8 : Hid (HPl W (k + 3) p7 sz7 ia7 ib7 PS BK b7 w6) := h7
                  have QWH : Hid _ := bookWhole_any w6 BK b7 h7.bk h7.mb h7.mg (by have := h7.le; omega) (by have := h7.lg; omega)
                  clear h7 H7
                  go_wp2_with fail
                  refine Calls.mono QWH.out ?_
                  rintro e9 w9 ⟨rfl, hb9⟩
                  have H9 : Hid (∃ (p : Nat → Ent) (sz ia ib : Nat) (b : BV), HPl W (k + 3) p sz ia ib PS BK b w9) := ⟨_, _, _, _, _, H8.out.below hb9⟩
                  clear hb9 QWH H8
                  go_wp2
                  go_roundw
                  case rel => exact ⟨k + 1, by omega, by go_num, H9⟩
                  case measure => simp [intOf]; omega
                · refine ⟨_, rfl, fun K hK => ?_⟩
                  have y0 := hS.2.1
                  have y1 := hS.2.2
                  have z0 := H5.out.2.ps.fz (o * 2)
                  have z1 := H5.out.2.ps.fz (o * 2 + 1)
                  go_wp2
                  refine ⟨rfl, hK _ _ (fun q => absurd (q.symm.trans (by kernel_rfl)) Bool.false_ne_true) ?_⟩
                  clear hK K
                  obtain ⟨p6, sz6, ia6, ib6, h6⟩ := HA.out.made ho2 (by rw [← HJO.out, ← HEO.out]; exact H5.out.1)
                  obtain ⟨w6, hw6⟩ : ∃ w6, w6 = (w5.setCell ⟨PS, o * 2, none⟩ (.pointer (some ⟨f.H, 0, none⟩))).setCell ⟨PS, o * 2 + 1, none⟩ (.pointer (some ⟨f.R, 0, none⟩)) := ⟨_, rfl⟩
                  rw [← hw6] at h6 ⊢
                  have H7 : Hid (∃ (p : Nat → Ent) (sz ia ib : Nat) (b : BV), HPl W (k + 3) p sz ia ib PS BK b w6) := ⟨_, _, _, _, _, h6⟩
                  clear h6 hw6 hS y0 y1 z0 z1 H5 HA
                  refine MixL.many [9] 1 (by kernel_rfl) (by decide) (by kernel_rfl) ?_
                  intro i hi
                  simp only [List.mem_cons, List.not_mem_nil, or_false] at hi
                  subst hi
                  refine ⟨_, rfl, fun K hK => ?_⟩
                  go_wp2
                  refine ⟨rfl, hK _ _ (fun q => absurd (q.symm.trans (by kernel_rfl)) Bool.false_ne_true) ?_⟩
                  clear hK K
                  refine MixL.many [12] 0 (by kernel_rfl) (by decide) (by kernel_rfl) ?_
                  intro i hi
                  simp only [List.mem_cons, List.not_mem_nil, or_false] at hi
                  subst hi
                  refine ⟨_, rfl, fun K hK => ?_⟩
                  go_wp2
                  refine ⟨rfl, hK _ _ (fun q => absurd (q.symm.trans (by kernel_rfl)) Bool.false_ne_true) ?_⟩
                  clear hK K
                  refine MixL.done (by kernel_rfl) ?_
                  obtain ⟨p7, sz7, ia7, ib7, b7, h7⟩ := H7.out
                  have H8 : Hid (HPl W (k + 3) p7 sz7 ia7 ib7 PS BK b7 w6) := h7
                  have QWH : Hid _ := bookWhole_any w6 BK b7 h7.bk h7.mb h7.mg (by have := h7.le; omega) (by have := h7.lg; omega)
                  clear h7 H7
                  go_wp2_with fail
                  refine Calls.mono QWH.out ?_
                  rintro e9 w9 ⟨rfl, hb9⟩
                  have H9 : Hid (∃ (p : Nat → Ent) (sz ia ib : Nat) (b : BV), HPl W (k + 3) p sz ia ib PS BK b w9) := ⟨_, _, _, _, _, H8.out.below hb9⟩
                  clear hb9 QWH H8
                  go_wp2
                  go_roundw
                  case rel => exact ⟨k + 1, by omega, by go_num, H9⟩
                  case measure => simp [intOf]; omega
            · have n5 : (kd == 5) = false := by rw [beq_eq_false_iff_ne]; exact k5
              clear k1 k6 k5
              as_aux_lemma =>
                clear HQS HQC HQN HQ8
                go_upto_region 15 with fail
                refine MixH.start (fun A => A.cell? ⟨P, 0, none⟩ = some (.int .i64 kd) ∧ A.cell? ⟨P, 2, none⟩ = some (.int .i64 off) ∧ A.cell? ⟨P, 3, none⟩ = some (.slice qa qn qc) ∧ A.cell? ⟨P, 4, none⟩ = some (.bool more) ∧ (A.cell? ⟨PS, o * 2, none⟩ = some (.pointer (some ⟨eo.H, 0, none⟩)) ∧ A.cell? ⟨PS, o * 2 + 1, none⟩ = some (.pointer (some ⟨eo.R, 0, none⟩)))) (by kernel_rfl) ?_
                obtain ⟨wA, hwA⟩ : ∃ wA, wA = w1.drew := ⟨_, rfl⟩
                have hS : wA.cell? ⟨P, 0, none⟩ = some (.int .i64 kd) ∧ wA.cell? ⟨P, 2, none⟩ = some (.int .i64 off) ∧ wA.cell? ⟨P, 3, none⟩ = some (.slice qa qn qc) ∧ wA.cell? ⟨P, 4, none⟩ = some (.bool more) ∧ (wA.cell? ⟨PS, o * 2, none⟩ = some (.pointer (some ⟨eo.H, 0, none⟩)) ∧ wA.cell? ⟨PS, o * 2 + 1, none⟩ = some (.pointer (some ⟨eo.R, 0, none⟩))) := by rw [hwA]; exact hS1
                have hbd : Below w1.heap.size w1 w1.drew := drew_below (Below.refl _ _)
                have HA : Hid (HPl W (k + 2) p sz ia ib PS BK b wA) := by rw [hwA]; exact H1.out.below hbd
                have hPA : P < wA.heap.size := by rw [hwA]; exact hP1
                rw [← hwA]
                clear hwA hbd hS1 H1 hP1
                refine MixH.takes [true, true] 6 (by kernel_rfl) (by kernel_rfl) (by decide) (by kernel_rfl) hS (fun K hK => ?_)
                simp only [Mix.pick]
                repeat (go_big_quiet_step (fail))
                refine wpQuiet_nil (hK _ ?_)
                clear hK K
                refine MixH.take 5 2 _ (.agg #[.pointer (some ⟨eo.H, 0, none⟩), .pointer (some ⟨eo.R, 0, none⟩)]) rfl (by kernel_rfl) (by kernel_rfl) (by kernel_rfl) (by kernel_rfl) (yields_pr (.tmp 77) rfl PS (o * 2) _ _ rfl rfl (fun A hA => hA.2.2.2.2)) hS (fun a' ha => ?_)
                simp only [Act.put, List.setIfInBounds_toArray, List.set_cons_succ, List.set_cons_zero] at ha
                subst ha
                refine MixH.takes [false, false, false, true] 4 (by kernel_rfl) (by kernel_rfl) (by decide) (by kernel_rfl) hS (fun K hK => ?_)
                simp only [Mix.pick]
                repeat (go_big_quiet_step (fail))
                refine wpQuiet_nil (hK _ ?_)
                clear hK K
                refine MixH.take 3 4 _ (.int .i64 kd) rfl (by kernel_rfl) (by kernel_rfl) (by kernel_rfl) (by kernel_rfl) (yields_int (.tmp 79) rfl ⟨P, 0, none⟩ _ rfl rfl (fun A hA => hA.1)) hS (fun a' ha => ?_)
                simp only [Act.put, List.setIfInBounds_toArray, List.set_cons_succ, List.set_cons_zero] at ha
                subst ha
                refine MixH.takes [false, false, false, false, false, true] 2 (by kernel_rfl) (by kernel_rfl) (by decide) (by kernel_rfl) hS (fun K hK => ?_)
                simp only [Mix.pick]
                repeat (go_big_quiet_step (fail))
                refine wpQuiet_nil (hK _ ?_)
                clear hK K
                refine MixH.one [false, false, false, false, false, false, true] 1 6 _ rfl rfl (by kernel_rfl) (by kernel_rfl) (fun K hK => ?_)
                simp only [Mix.pick]
                have QA : Hid _ := asked_any wA eo (by rw [HEO.out]; exact HA.out.ok _ HEI.out) kd BK b HA.out.bk HA.out.mb HA.out.mg (by have := HA.out.le; omega) (by have := HA.out.lg; omega)
                go_wp2_with fail
                refine Calls.mono QA.out ?_
                rintro e8 w6 ⟨rfl, hm⟩
                obtain ⟨b', h6⟩ := HA.out.ask hm
                have H6 : Hid (∃ (p : Nat → Ent) (sz ia ib : Nat) (b : BV), HPl W (k + 3) p sz ia ib PS BK b w6) := ⟨_, _, _, _, _, h6⟩
                have c6 : Ch (BB BK b) wA w6 := by obtain ⟨_, _, _, _, _, _, _, z⟩ := hm; exact z
                have NP : ¬ BB BK b P := HNB.out
                have NPS : ¬ BB BK b PS := HA.out.bp
                have hS' : w6.cell? ⟨P, 0, none⟩ = some (.int .i64 kd) ∧ w6.cell? ⟨P, 2, none⟩ = some (.int .i64 off) ∧ w6.cell? ⟨P, 3, none⟩ = some (.slice qa qn qc) ∧ w6.cell? ⟨P, 4, none⟩ = some (.bool more) ∧ (w6.cell? ⟨PS, o * 2, none⟩ = some (.pointer (some ⟨eo.H, 0, none⟩)) ∧ w6.cell? ⟨PS, o * 2 + 1, none⟩ = some (.pointer (some ⟨eo.R, 0, none⟩))) := ⟨c6.cell hS.1 NP, c6.cell hS.2.1 NP, c6.cell hS.2.2.1 NP, c6.cell hS.2.2.2.1 NP, c6.cell hS.2.2.2.2.1 NPS, c6.cell hS.2.2.2.2.2 NPS⟩
                clear hS c6 NP NPS h6 hm QA
                have hS := hS'
                clear hS'
                go_wp2
                refine ⟨rfl, hK _ _ hS ?_⟩
                clear hK K
                refine MixH.takes [false, false, false, false, false, false, false, true] 0 (by kernel_rfl) (by kernel_rfl) (by decide) (by kernel_rfl) hS (fun K hK => ?_)
                simp only [Mix.pick]
                repeat (go_big_quiet_step (fail))
                refine wpQuiet_nil (hK _ ?_)
                clear hK K
                refine MixH.done (by kernel_rfl) ?_
                clear hS
                have H7 := H6
                clear H6 HA hPA
                obtain ⟨p7, sz7, ia7, ib7, b7, h7⟩ := H7.out
                have H8 : Hid (HPl W (k + 3) p7 sz7 ia7 ib7 PS BK b7 w6) := h7
                have QWH : Hid _ := bookWhole_any w6 BK b7 h7.bk h7.mb h7.mg (by have := h7.le; omega) (by have := h7.lg; omega)
                clear h7 H7
                go_wp2_with fail
                refine Calls.mono QWH.out ?_
                rintro e9 w9 ⟨rfl, hb9⟩
                have H9 : Hid (∃ (p : Nat → Ent) (sz ia ib : Nat) (b : BV), HPl W (k + 3) p sz ia ib PS BK b w9) := ⟨_, _, _, _, _, H8.out.below hb9⟩
                clear hb9 QWH H8
                go_wp2
                go_roundw
                case rel => exact ⟨k + 1, by omega, by go_num, H9⟩
                case measure => simp [intOf]; omega
end Go.Proofs.Ytfahfbpobmpccaa
