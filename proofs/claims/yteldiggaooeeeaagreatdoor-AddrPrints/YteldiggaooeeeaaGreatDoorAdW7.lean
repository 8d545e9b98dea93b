/-
  Layer 4: addr.PrintIP of an address of version 4, addr.ParseIP of a text without a colon.
-/
import Derived.Test.YteldiggaooeeeaaGreatDoorAdW6
namespace Go.Proofs.YteldiggaooeeeaaGreatDoor
open Go.RowKit Go.Maps

theorem lt16' {j : Nat} (h : j < 16) : j = 0 ∨ j = 1 ∨ j = 2 ∨ j = 3 ∨ j = 4 ∨ j = 5 ∨ j = 6 ∨ j = 7 ∨ j = 8 ∨ j = 9 ∨ j = 10 ∨ j = 11 ∨ j = 12 ∨ j = 13 ∨ j = 14 ∨ j = 15 := by omega
theorem ipC_byte (V : Int) (x : Nat → Nat) (i : Nat) (hi : i < 16) : (ipCells V x)[1 + i]? = some (.int .u8 (x i : Nat)) := by
  rcases lt16' hi with rfl | rfl | rfl | rfl | rfl | rfl | rfl | rfl | rfl | rfl | rfl | rfl | rfl | rfl | rfl | rfl <;> rfl
theorem IprAt.byte {w : World} {O : Nat} {V : Int} {x : Nat → Nat} (h : IprAt w O V x) (i : Nat) (hi : i < 16) : w.cell? ⟨O, 1 + i, none⟩ = some (.int .u8 (x i : Nat)) := (h.cell _).trans (ipC_byte V x i hi)
theorem results_ipr_tmp2 {fn : Func} {p u0 u1 : Tmp} (h : fn.results = #[.cell p 28, .tmp u0, .tmp u1]) (tmps : Array Value) (w : World) (O : Nat) (V : Int) (f : Nat → Nat) (hp : tmps.getD p undef = .pointer (some ⟨O, 0, none⟩)) (hb : IprAt w O V f) :
    (results fn tmps).run Tryz.prog w = .ok (.tuple #[.agg (ipCells V f), tmps.getD u0 undef, tmps.getD u1 undef]) w := by
  have hp' : tmps[p]?.getD undef = .pointer (some ⟨O, 0, none⟩) := by simpa using hp
  simp [results, h, hp', asAddr, run_loadVar_row w O _ 28 (ipCells V f) _ _ hb Tryz.underlying28 rfl Tryz.size_ipr]
theorem dtd_ok {s : ByteArray} {l' : List Nat} : ∀ m p l, dtd s m p l = .inl l' → ∃ t, l' = l ++ t ∧ t.length = m ∧ ∀ x ∈ t, x < 256
  | 0, p, l, h => by
    unfold dtd at h
    split at h
    · cases h
    · injection h with h; exact ⟨[], by simp [h], rfl, fun x hx => by cases hx⟩
  | m + 1, p, l, h => by
    have hle : dcm s p (scP s dgB p) 255 ≤ 255 := dcm_le
    unfold dtd at h
    split at h
    · cases h
    · split at h
      · cases h
      · split at h
        · rename_i hm
          obtain ⟨t, e1, e2, e3⟩ := dtd_ok 0 _ _ h
          refine ⟨(dcm s p (scP s dgB p) 255).toNat :: t, by rw [e1]; simp, by simp at hm; simp [e2, hm], fun x hx => ?_⟩
          rcases List.mem_cons.1 hx with rfl | hx
          · omega
          · exact e3 x hx
        · split at h
          · cases h
          · obtain ⟨t, e1, e2, e3⟩ := dtd_ok m _ _ h
            refine ⟨(dcm s p (scP s dgB p) 255).toNat :: t, by rw [e1]; simp, by simp [e2], fun x hx => ?_⟩
            rcases List.mem_cons.1 hx with rfl | hx
            · omega
            · exact e3 x hx
theorem hrE_ne (s : ByteArray) (p : Nat) : (hrE s p).1 ≠ 0 ∧ (hrE s p).1 < 100 := by unfold hrE; split <;> simp
theorem dtd_er {s : ByteArray} {e : Nat × Nat} : ∀ m p l, dtd s m p l = .inr e → e.1 ≠ 0 ∧ e.1 < 100
  | 0, p, l, h => by
    unfold dtd at h
    split at h
    · injection h with h; rw [← h]; simp
    · cases h
  | m + 1, p, l, h => by
    unfold dtd at h
    split at h
    · injection h with h; rw [← h]; exact hrE_ne s p
    · split at h
      · injection h with h; rw [← h]; simp
      · split at h
        · exact dtd_er 0 _ _ h
        · split at h
          · injection h with h; rw [← h]; exact hrE_ne s _
          · exact dtd_er m _ _ h
theorem list4 {t : List Nat} (h : t.length = 4) : ∃ a b c d, t = [a, b, c, d] := by
  match t, h with
  | [a, b, c, d], _ => exact ⟨a, b, c, d, rfl⟩
/-- ParseIP's answer -/
def ipO (r : Sum (Int × (Nat → Nat)) (Nat × Nat)) : Value := match r with
  | .inl (V, x) => .tuple #[.agg (ipCells V x), .int .i64 0, .int .i64 0]
  | .inr (e, p) => .tuple #[.agg (ipCells 0 (fun _ => 0)), .int .i64 (e : Nat), .int .i64 (p : Nat)]
theorem idx_hs (s : ByteArray) : decide (0 ≤ Lib.indexByte s.data.toList 58) = hsB s 58 := by
  have h : ∀ l : List UInt8, decide (0 ≤ Lib.indexByte l 58) = l.any (fun b => b == 58) := by
    intro l
    induction l with
    | nil => rfl
    | cons b l ih =>
      unfold Lib.indexByte
      rw [List.any_cons, ← ih]
      by_cases hb : b == 58
      · rw [hb]; simp
      · rw [Bool.not_eq_true] at hb
        rw [hb]
        by_cases h1 : Lib.indexByte l 58 == -1
        · rw [h1]; simp at h1; simp [h1]
        · rw [Bool.not_eq_true] at h1
          rw [h1]
          simp at h1
          by_cases h2 : 0 ≤ Lib.indexByte l 58
          · simp [h2]; omega
          · simp [h2]; omega
  rw [h]
  unfold hsB
  rw [Bool.eq_iff_iff, List.any_eq_true, List.any_eq_true]
  constructor
  · rintro ⟨b, hb, he⟩
    obtain ⟨i, hi⟩ := List.mem_iff_getElem?.1 hb
    have hlt := (List.getElem?_eq_some_iff.1 hi).1
    refine ⟨i, List.mem_range.2 hlt, ?_⟩
    unfold sB
    rw [List.getD_eq_getElem?_getD, hi]
    simp at he
    subst he
    rfl
  · rintro ⟨i, hi, he⟩
    have hlt : i < s.data.toList.length := List.mem_range.1 hi
    refine ⟨s.data.toList[i], List.getElem_mem hlt, ?_⟩
    unfold sB at he
    rw [List.getD_eq_getElem?_getD, List.getElem?_eq_getElem hlt] at he
    simp at he ⊢
    exact UInt8.toNat_inj.1 he
set_option maxHeartbeats 1600000 in
set_option maxRecDepth 100000 in
theorem print4_any (x : Nat → Nat) (w : World) (hx : ∀ i, i < 16 → x i < 256) (hv : vld 4 x = true) (hp : Pow w) : Calls Tryz.prog 10 #[.agg (ipCells 4 x)] w fun r w' => r = .returned (.tuple #[.string (txB (dots (x 0) (x 1) (x 2) (x 3))), .int .i64 0]) ∧ Below w.heap.size w w' := by
  have HX : Hid (∀ i, i < 16 → x i < 256) := hx
  have HV : Hid (vld 4 x = true) := hv
  have HPW : Hid (Pow w) := hp
  clear hx hv hp
  have hb := ipr_new w 4 x
  have bel : Below w.heap.size w (w.alloc (.cells (ipCells 4 x) 28)) := (Below.refl _ _).alloc (Nat.le_refl _) _
  obtain ⟨CX, hC⟩ : ∃ C, C = ipCells 4 x := ⟨_, rfl⟩
  obtain ⟨W, hW⟩ : ∃ W_, W_ = w.alloc (.cells (ipCells 4 x) 28) := ⟨_, rfl⟩
  rw [← hW] at hb bel
  have HSZX : Hid (W.heap.size = w.heap.size + 1) := by show _ = _; rw [hW, World.size_alloc]
  obtain ⟨B, hB⟩ : ∃ B, B = w.heap.size := ⟨_, rfl⟩
  rw [← hB] at hb
  have HBX : Hid (IprAt W B 4 x) := hb
  rw [← hC] at hW ⊢
  have HOX : Hid (w.heap.size = B) := hB.symm
  have HLX : Hid (Below w.heap.size w W) := bel
  have HWX : Hid (w.alloc (.cells CX 28) = W) := hW.symm
  clear hb hW hB hC bel
  go_enter Tryz.func10, Tryz.ntmps10
  go_upto_region 1 with fail
  rw [HOX.out, HWX.out]
  go_wp2_with (refine wpList_load_ipr (.tmp 1) rfl B 4 x rfl HBX.out rfl ?_)
  refine (valid_any 4 x W HX.out).mono ?_
  rintro e w1 ⟨rfl, hb1⟩
  rw [HV.out]
  have H1 : Hid (IprAt w1 B 4 x ∧ Below w.heap.size w w1) := ⟨HBX.out.below hb1, HLX.out.trans (hb1.mono HLX.out.size)⟩
  have k0 : w1.cell? ⟨B, 0, none⟩ = some (.int .i64 4) := H1.out.1.cell 0
  have HPW1 : Hid (Pow w1) := HPW.out.below H1.out.2
  clear hb1
  go_wp2_with fail
  refine (dotted_any' B 1 16 x w1 (fun i hi => HX.out i (by omega)) (fun i hi => H1.out.1.byte i (by omega)) HPW1.out).mono ?_
  rintro e w2 ⟨rfl, hb2⟩
  have H2 : Hid (Below w.heap.size w w2) := H1.out.2.trans (hb2.mono H1.out.2.size)
  clear hb2
  go_wp2
  refine bodyPost_ret (results_tmp2 rfl _ _ _) rfl ?_
  exact ⟨rfl, H2.out⟩
def wl3 (w : World) (s : ByteArray) : World := (((w.alloc (.cells (ipCells 0 (fun _ => 0)) 28)).alloc (.cells (rdC s 0) 45)).alloc (.cells (ipCells 0 (fun _ => 0)) 28))
theorem wl3_at (w : World) (s : ByteArray) : IprAt (wl3 w s) w.heap.size 0 (fun _ => 0) ∧ RdAt (wl3 w s) (w.heap.size + 1) s 0 ∧ IprAt (wl3 w s) (w.heap.size + 2) 0 (fun _ => 0) ∧ Below w.heap.size w (wl3 w s) := by
  have a1 := ipr_new w 0 (fun _ => 0)
  have b1 : Below w.heap.size w (w.alloc (.cells (ipCells 0 (fun _ => 0)) 28)) := (Below.refl _ _).alloc (Nat.le_refl _) _
  unfold wl3
  obtain ⟨w1, hw1⟩ : ∃ w1, w1 = w.alloc (.cells (ipCells 0 (fun _ => 0)) 28) := ⟨_, rfl⟩
  have z1 : w1.heap.size = w.heap.size + 1 := by rw [hw1, World.size_alloc]
  rw [← hw1] at a1 b1 ⊢
  have a2 : RdAt (w1.alloc (.cells (rdC s 0) 45)) w1.heap.size s 0 := heap_alloc_new _ _
  have b2 : Below w1.heap.size w1 (w1.alloc (.cells (rdC s 0) 45)) := (Below.refl _ _).alloc (Nat.le_refl _) _
  obtain ⟨w2, hw2⟩ : ∃ w2, w2 = w1.alloc (.cells (rdC s 0) 45) := ⟨_, rfl⟩
  have z2 : w2.heap.size = w.heap.size + 2 := by rw [hw2, World.size_alloc, z1]
  rw [← hw2] at a2 b2 ⊢
  have a3 := ipr_new w2 0 (fun _ => 0)
  have b3 : Below w2.heap.size w2 (w2.alloc (.cells (ipCells 0 (fun _ => 0)) 28)) := (Below.refl _ _).alloc (Nat.le_refl _) _
  rw [z1] at a2
  rw [z2] at a3
  exact ⟨(a1.below b2).below b3, a2.below b3, a3, (b1.trans (b2.mono (by omega))).trans (b3.mono (by omega))⟩
set_option maxHeartbeats 1600000 in
set_option maxRecDepth 100000 in
theorem parse4_any (s : ByteArray) (w : World) (hs : s.size ≤ 45) (h4 : hsB s 58 = false) : Calls Tryz.prog 9 #[.string s] w fun r w' => r = .returned (ipO (pIP s)) ∧ Below w.heap.size w w' := by
  have HS : Hid (s.size ≤ 45) := hs
  have H4 : Hid (hsB s 58 = false) := h4
  have q0 : decide ((45 : Int) < (s.size : Int)) = false := decide_eq_false (by omega)
  have q1 : decide (45 < s.size) = false := decide_eq_false (by omega)
  clear hs h4
  obtain ⟨W, hW⟩ : ∃ W_, W_ = wl3 w s := ⟨_, rfl⟩
  obtain ⟨B, hB⟩ : ∃ B, B = w.heap.size := ⟨_, rfl⟩
  have HIP : Hid (IprAt W B 0 (fun _ => 0) ∧ RdAt W (B + 1) s 0 ∧ IprAt W (B + 1 + 1) 0 (fun _ => 0) ∧ Below w.heap.size w W) := by rw [hW, hB]; exact wl3_at w s
  have HBW : Hid (w.heap.size = B) := hB.symm
  have HW : Hid ((((w.alloc (.cells #[.int .i64 0, .int .u8 0, .int .u8 0, .int .u8 0, .int .u8 0, .int .u8 0, .int .u8 0, .int .u8 0, .int .u8 0, .int .u8 0, .int .u8 0, .int .u8 0, .int .u8 0, .int .u8 0, .int .u8 0, .int .u8 0, .int .u8 0] 28)).alloc (.cells #[.string s, .int .i64 0] 45)).alloc (.cells #[.int .i64 0, .int .u8 0, .int .u8 0, .int .u8 0, .int .u8 0, .int .u8 0, .int .u8 0, .int .u8 0, .int .u8 0, .int .u8 0, .int .u8 0, .int .u8 0, .int .u8 0, .int .u8 0, .int .u8 0, .int .u8 0, .int .u8 0] 28)) = W) := hW.symm
  clear hW hB
  go_enter Tryz.func9, Tryz.ntmps9
  go_wp2_with fail
  rw [HBW.out, HW.out]
  refine (con_any s 58 W).mono ?_
  rintro e W ⟨rfl, rfl⟩
  rw [idx_hs, H4.out]
  have k0 : W.cell? ⟨B + 1 + 1, 0, none⟩ = some (.int .i64 0) := HIP.out.2.2.1.cell 0
  have f0 : W.frozen? ⟨B + 1 + 1, 0, none⟩ = false := HIP.out.2.2.1.fz 0
  obtain ⟨W1, hW1⟩ : ∃ W1, W1 = W.setCell ⟨B + 1 + 1, 0, none⟩ (.int .i64 4) := ⟨_, rfl⟩
  have H1 : Hid (IprAt W1 B 0 (fun _ => 0) ∧ RdAt W1 (B + 1) s 0 ∧ IprAt W1 (B + 1 + 1) 4 (fun _ => 0) ∧ Below w.heap.size w W1) := by
    have c1 : Ch (fun k => k = B + 1 + 1) W W1 := by rw [hW1]; exact (Ch.refl _ _).set _ _ rfl
    refine ⟨HIP.out.1.ch c1 (by omega), HIP.out.2.1.ch c1 (by omega), ?_, HIP.out.2.2.2.trans (c1.below (fun q h => by have := HBW.out; omega) HIP.out.2.2.2.size)⟩
    rw [hW1]
    have h0 := HIP.out.2.2.1
    unfold IprAt at h0 ⊢
    rw [heap_setCell_same W (B + 1 + 1) 0 _ _ _ h0]
    rfl
  have HW1 : Hid (W.setCell ⟨B + 1 + 1, 0, none⟩ (.int .i64 4) = W1) := hW1.symm
  clear hW1
  go_wp2_with fail
  rw [HW1.out]
  refine (four_any (B + 1) (B + 1 + 1) 1 16 s 0 (ipCells 4 (fun _ => 0)) 28 W1 H1.out.2.1 H1.out.2.2.1 (by omega) (fun k hk => ⟨_, ipC_byte 4 _ k (by omega)⟩) (Nat.zero_le _) (by have := HS.out; omega)).mono ?_
  rintro e w2 ⟨hf, hch⟩
  have H2 : Hid (IprAt w2 B 0 (fun _ => 0) ∧ Below w.heap.size w w2) := ⟨H1.out.1.ch hch (by omega), H1.out.2.2.2.trans (hch.below (fun q h => by have := HBW.out; omega) H1.out.2.2.2.size)⟩
  clear hch k0 f0
  cases hd : dtd s 4 0 [] with
  | inr er =>
    unfold FrR at hf
    rw [hd] at hf
    obtain ⟨rfl, hrd⟩ := hf
    obtain ⟨e1, e2⟩ := er
    have hne := dtd_er 4 0 [] hd
    have HP : Hid (pIP s = .inr (e1, e2)) := by show _ = _; unfold pIP; rw [if_neg (by have := HS.out; omega), H4.out, if_neg (by decide), hd]
    have q2 : (((e1 : Nat) : Int) != 0) = true := by simp at hne ⊢; omega
    have HRD : Hid (RdAt w2 (B + 1) s e2) := hrd
    clear hd hne hrd
    go_wp2_with fail
    refine MixH.start (fun A => IprAt A B 0 (fun _ => 0) ∧ RdAt A (B + 1) s e2 ∧ Below w.heap.size w A) (by kernel_rfl) ?_
    obtain ⟨wA, hwA⟩ : ∃ W_, W_ = w2.drew := ⟨_, rfl⟩
    have bdr : Below w2.heap.size w2 wA := by rw [hwA]; exact (Below.refl _ _).drew
    have hS : IprAt wA B 0 (fun _ => 0) ∧ RdAt wA (B + 1) s e2 ∧ Below w.heap.size w wA := ⟨H2.out.1.below bdr, HRD.out.below bdr, H2.out.2.trans (bdr.mono H2.out.2.size)⟩
    rw [← hwA]
    clear hwA bdr
    refine MixH.takes [true, true, true] 4 (by kernel_rfl) (by kernel_rfl) (by decide) (by kernel_rfl) hS (fun K hK => ?_)
    simp only [Mix.pick]
    repeat (go_big_quiet_step (fail))
    refine wpQuiet_nil (hK _ ?_)
    clear hK K
    refine MixH.take 3 3 _ (.int .i64 (e2 : Nat)) rfl (by kernel_rfl) (by kernel_rfl) (by kernel_rfl) (by kernel_rfl) (yields_int (.tmp 31) rfl ⟨B + 1, 1, none⟩ (.int .i64 (e2 : Nat)) rfl rfl (fun A hA => hA.2.1.c1)) hS (fun a' ha => ?_)
    simp only [Act.put, List.setIfInBounds_toArray, List.set_cons_succ, List.set_cons_zero] at ha
    subst ha
    refine MixH.one [false, false, false, false, true] 2 4 _ rfl rfl (by kernel_rfl) (by kernel_rfl) (fun K hK => ?_)
    simp only [Mix.pick]
    go_wp2_with (refine wpList_store_ipr (.tmp 2) (.tmp 29) rfl rfl B 0 (fun _ => 0) 0 (fun _ => 0) rfl rfl hS.1 rfl ?_)
    intro wE hRE kE
    have hS : IprAt wE B 0 (fun _ => 0) ∧ RdAt wE (B + 1) s e2 ∧ Below w.heap.size w wE := ⟨hRE, hS.2.1.ch kE (by omega), hS.2.2.trans (kE.below (fun q h => by have h' : q = B := h; have := HBW.out; omega) hS.2.2.size)⟩
    clear hRE kE
    go_wp2_with fail
    refine ⟨rfl, hK _ _ hS ?_⟩
    clear hK K
    refine MixH.takes [false, false, false, false, false, true, true] 0 (by kernel_rfl) (by kernel_rfl) (by decide) (by kernel_rfl) hS (fun K hK => ?_)
    simp only [Mix.pick]
    repeat (go_big_quiet_step (fail))
    refine wpQuiet_nil (hK _ ?_)
    clear hK K
    refine MixH.done (by kernel_rfl) ?_
    have HS2 : Hid (IprAt wE B 0 (fun _ => 0) ∧ RdAt wE (B + 1) s e2 ∧ Below w.heap.size w wE) := hS
    clear hS
    go_wp2
    (try simp only [Exit.inBlock, Exit.then])
    refine bodyPost_ret (results_ipr_tmp2 rfl _ _ B 0 _ rfl HS2.out.1) rfl ?_
    exact ⟨by rw [HP.out]; rfl, HS2.out.2.2⟩
  | inl l =>
    unfold FrR at hf
    rw [hd] at hf
    obtain ⟨rfl, hrd, hP⟩ := hf
    obtain ⟨t, ht, ht4, htb⟩ := dtd_ok 4 0 [] hd
    obtain ⟨a0, a1, a2, a3, rfl⟩ := list4 ht4
    obtain rfl : l = [a0, a1, a2, a3] := by simpa using ht
    have hI : IprAt w2 (B + 1 + 1) 4 (fun i => [a0, a1, a2, a3].getD i 0) := hP
    have HI : Hid (IprAt w2 (B + 1 + 1) 4 (fun i => [a0, a1, a2, a3].getD i 0)) := hI
    have HP : Hid (pIP s = .inl (4, fun i => [a0, a1, a2, a3].getD i 0)) := by show _ = _; unfold pIP; rw [if_neg (by have := HS.out; omega), H4.out, if_neg (by decide), hd]
    clear hd hrd hP ht ht4 htb hI
    go_wp2_with (first | (refine wpList_load_ipr (.tmp 6) rfl (B + 1 + 1) 4 _ rfl HI.out rfl ?_) | (refine wpList_store_ipr (.tmp 2) (.tmp 33) rfl rfl B 0 (fun _ => 0) 4 (fun i => [a0, a1, a2, a3].getD i 0) rfl rfl H2.out.1 rfl ?_))
    intro wE hRE kE
    have HE : Hid (IprAt wE B 4 (fun i => [a0, a1, a2, a3].getD i 0) ∧ Below w.heap.size w wE) := ⟨hRE, H2.out.2.trans (kE.below (fun q h => by have h' : q = B := h; have := HBW.out; omega) H2.out.2.size)⟩
    clear hRE kE
    go_wp2
    (try simp only [Exit.inBlock, Exit.then])
    refine bodyPost_ret (results_ipr_tmp2 rfl _ _ B 4 _ rfl HE.out.1) rfl ?_
    exact ⟨by rw [HP.out]; rfl, HE.out.2⟩
end Go.Proofs.YteldiggaooeeeaaGreatDoor
