/-
  l4.PutTcp.
-/
import Derived.Test.YtfoeepbndfnifaaDoorL9WU
import Derived.Test.YtfoeepbndfnifaaDoorL9CT
namespace Go.Proofs.YtfoeepbndfnifaaDoor.MixH
open Go.Proofs.YtfoeepbndfnifaaDoor.Mix
theorem pair {P : Program} {l : List Oper} {Q : Exit → Act → World → Prop} {S : World → Prop} {F : Nat} {listed : Array Bool} {a : Act} {w : World} (fs1 fs2 : List Bool) (fuel : Nat) (i j : Nat) (o1 o2 : Oper) (ho1 : pick fs1 l = [o1]) (ho2 : pick fs2 l = [o2]) (hi : l[i]? = some o1) (hj : l[j]? = some o2) (hr : Region.ready .any l.toArray listed = [i, j]) (hF : F = fuel + 1)
    (h1 : ∀ K : Act → World → Prop, (∀ a' w', S w' → wpAnyH P .any l.toArray (only Q) S fuel (listed.setIfInBounds i true) a' w' → K a' w') → wpList P l.toArray (only fun _ => K) (pick fs1 l) a w)
    (h2 : ∀ K : Act → World → Prop, (∀ a' w', S w' → wpAnyH P .any l.toArray (only Q) S fuel (listed.setIfInBounds j true) a' w' → K a' w') → wpList P l.toArray (only fun _ => K) (pick fs2 l) a w) : wpAnyH P .any l.toArray (only Q) S F listed a w := by
  subst hF
  refine wpAnyH_all hr (by simp) fun m hm => ?_
  simp only [List.mem_cons, List.not_mem_nil, or_false] at hm
  rcases hm with rfl | rfl
  · have h0 := h1 _ (fun _ _ hs h => (⟨hs, h⟩ : _ ∧ _))
    rw [ho1] at h0
    have hi' : l.toArray[m]? = some o1 := by simpa using hi
    unfold wpOp
    simp only [hi']
    unfold wpList at h0
    split
    · rename_i hw
      rw [if_pos hw] at h0
      rcases h0 with h0 | ⟨_, h0⟩
      · exact .inl (wp_only (fun a w h => h.2) h0)
      · exact absurd h0 (no_out _)
    · rename_i hw
      rw [if_neg hw] at h0
      exact h0.2
  · have h0 := h2 _ (fun _ _ hs h => (⟨hs, h⟩ : _ ∧ _))
    rw [ho2] at h0
    have hi' : l.toArray[m]? = some o2 := by simpa using hj
    unfold wpOp
    simp only [hi']
    unfold wpList at h0
    split
    · rename_i hw
      rw [if_pos hw] at h0
      rcases h0 with h0 | ⟨_, h0⟩
      · exact .inl (wp_only (fun a w h => h.2) h0)
      · exact absurd h0 (no_out _)
    · rename_i hw
      rw [if_neg hw] at h0
      exact h0.2
end Go.Proofs.YtfoeepbndfnifaaDoor.MixH
namespace Go.Proofs.YtfoeepbndfnifaaDoor
open Go.RowKit
open L4 (U9 T9)

theorem flatO_256 (l : List I4.OV) (h1 : ∀ o ∈ l, o.1 < 256 ∧ o.2.length ≤ 38) (h2 : ∀ o ∈ l, ∀ x ∈ o.2, x < 256) : ∀ x ∈ I4.flatO l, x < 256 := by
  induction l with
  | nil => intro x hx; cases hx
  | cons o l ih =>
    intro x hx
    have a := h1 o (by simp)
    simp only [I4.flatO, List.mem_cons, List.mem_append] at hx
    rcases hx with rfl | rfl | hx | hx
    · exact a.1
    · omega
    · exact h2 o (by simp) x hx
    · exact ih (fun o ho => h1 o (by simp [ho])) (fun o ho => h2 o (by simp [ho])) x hx
theorem put_256 (l : List (Int × List Nat)) (h2 : ∀ o ∈ l, ∀ x ∈ o.2, x < 256) : ∀ x ∈ I4.putO l, x < 256 := by
  unfold I4.putO
  split
  · rename_i hp
    simp only [I4.putOk, Bool.and_eq_true, List.all_eq_true] at hp
    intro x hx
    unfold I4.pad4 at hx
    rcases List.mem_append.1 hx with hx | hx
    · refine flatO_256 (l.map I4.natO) ?_ ?_ x hx
      · intro o ho
        obtain ⟨y, hy, rfl⟩ := List.mem_map.1 ho
        have := hp.1 y hy
        simp only [I4.okO, Bool.and_eq_true, decide_eq_true_eq] at this
        simp only [I4.natO]
        omega
      · intro o ho
        obtain ⟨y, hy, rfl⟩ := List.mem_map.1 ho
        exact h2 y hy
    · rw [List.mem_replicate] at hx; omega
  · intro x hx; cases hx
theorem opts_256 {w : World} {la : Option Addr} {os : List OpV} (h : OptsAt w la os) : ∀ o ∈ vals os, ∀ x ∈ o.2, x < 256 := by
  intro o ho
  obtain ⟨y, hy, rfl⟩ := List.mem_map.1 ho
  obtain ⟨i, hi⟩ := List.mem_iff_getElem?.1 hy
  obtain ⟨_, _, _, _, hok, _, _⟩ := h.at i y hi
  exact hok.h256
theorem Parts.old {w w' : World} {a : Option Addr} {ps : List Part} (h : Parts w a ps) (hb : Below w.heap.size w w') : Parts w' a ps := by
  obtain ⟨h1, h2⟩ := h
  refine ⟨?_, fun p hp => (h2 p hp).old hb⟩
  rcases h1 with h1 | ⟨b, off, e, hc⟩
  · exact .inl h1
  · exact .inr ⟨b, off, e, fun i hi => (hb.cell (p := ⟨b, off + i, none⟩) (World.block_lt_of_cell? w _ (hc i hi))).trans (hc i hi)⟩
theorem partsAt_of {w : World} {a : Option Addr} {ps : List Part} (h : Parts w a ps) : PartsAt w (fun k => w.heap.size ≤ k) a (ps.map (fun p => ⟨p.a, p.cap, p.l⟩)) := by
  obtain ⟨h1, h2⟩ := h
  rcases h1 with h1 | ⟨b, off, e, hc⟩
  · exact .inl (by rw [h1]; rfl)
  · cases hps : ps with
    | nil => exact .inl rfl
    | cons p0 ps0 =>
    rw [← hps]
    have hlt : b < w.heap.size := World.block_lt_of_cell? w _ (hc 0 (by rw [hps]; simp))
    refine .inr ⟨b, off, e, by omega, hlt, fun i p hp => ?_⟩
    rw [List.getElem?_map] at hp
    cases hq : ps[i]? with
    | none => rw [hq] at hp; simp at hp
    | some q =>
      rw [hq] at hp
      simp at hp
      subst hp
      obtain ⟨hi, hqe⟩ := List.getElem?_eq_some_iff.1 hq
      have hk := h2 q (List.mem_of_getElem? hq)
      have := hc i hi
      rw [hqe] at this
      refine ⟨this, hk.1, fun x hx hx2 => ?_⟩
      have := seg_blk hk.1 x hx hx2
      omega
set_option maxHeartbeats 6400000 in
set_option maxRecDepth 100000 in
theorem putT_any (V U : Int) (x y : Nat → Nat) (t : T9) (la : Option Addr) (ln lc : Nat) (os : List OpV) (da : Option Addr) (n c : Nat) (w : World) (hw : TW w) (hlw : LW w) (k : TOk w t la ln os da n c) (hx : ∀ i, i < 16 → x i < 256) (hy : ∀ i, i < 16 → y i < 256) :
    Calls Tryd.prog 24 #[.agg (ipCells V x), .agg (ipCells U y), .agg (tC t la ln lc da n c)] w fun e w' => ∃ v er, e = .returned (.tuple #[v, .int .i64 (er : Nat)]) ∧ er = L4.tPutE (psOk V U x y) t ∧ Below w.heap.size w w' ∧ WRes w (20 + (I4.putO t.os).length + n) (L4.tSer t (psL V U x y 6 ((20 + (I4.putO t.os).length + n : Nat) : Int))) er v w' := by
  obtain ⟨A, hA⟩ : ∃ A, A = ipCells V x := ⟨_, rfl⟩
  obtain ⟨C, hC⟩ : ∃ C, C = ipCells U y := ⟨_, rfl⟩
  have hx1 := boxed_new w V x 24
  have hy1 := boxed_new (w.alloc (.cells (ipCells V x) 24)) U y 24
  rw [World.size_alloc] at hy1
  have hx2 := hx1.old ((Below.refl _ _).alloc (Nat.le_refl _) (.cells (ipCells U y) 24))
  clear hx1
  rw [← hA] at hx2 hy1 ⊢
  rw [← hC] at hx2 hy1 ⊢
  obtain ⟨M, hM⟩ : ∃ M, M = tC t la ln lc da n c := ⟨_, rfl⟩
  have s2 : ((w.alloc (.cells A 24)).alloc (.cells C 24)).heap.size = w.heap.size + 1 + 1 := by simp
  have hr := tAt_new ((w.alloc (.cells A 24)).alloc (.cells C 24)) t la ln lc da n c
  rw [s2, ← hM] at hr
  have b3 : Below ((w.alloc (.cells A 24)).alloc (.cells C 24)).heap.size ((w.alloc (.cells A 24)).alloc (.cells C 24)) (((w.alloc (.cells A 24)).alloc (.cells C 24)).alloc (.cells M 45)) := (Below.refl _ _).alloc (Nat.le_refl _) _
  have hx3 := hx2.old b3
  have hy3 := hy1.old b3
  have bel : Below w.heap.size w (((w.alloc (.cells A 24)).alloc (.cells C 24)).alloc (.cells M 45)) := (((Below.refl _ _).alloc (Nat.le_refl _) _).alloc (by simp) _).alloc (by simp; omega) _
  clear hx2 hy1 b3 s2
  obtain ⟨W, hW⟩ : ∃ W, W = ((w.alloc (.cells A 24)).alloc (.cells C 24)).alloc (.cells M 45) := ⟨_, rfl⟩
  rw [← hW] at hr hx3 hy3 bel
  obtain ⟨B, hB⟩ : ∃ B, B = w.heap.size := ⟨_, rfl⟩
  have HB : Hid (w.heap.size = B) := hB.symm
  rw [← hB] at hr hx3 hy3
  obtain ⟨O, hO⟩ : ∃ O, O = B + 1 + 1 := ⟨_, rfl⟩
  rw [← hO] at hr
  have HW : Hid (((w.alloc (.cells A 24)).alloc (.cells C 24)).alloc (.cells M 45) = W) := hW.symm
  have HO : Hid (B + 1 + 1 = O) := hO.symm
  have HR : Hid (TAt W O t la ln lc da n c) := hr
  have HX : Hid (∀ i, i < 16 → x i < 256) := hx
  have HY : Hid (∀ i, i < 16 → y i < 256) := hy
  have HXB : Hid (Boxed W B V x) := hx3
  have HYB : Hid (Boxed W (B + 1) U y) := hy3
  rw [← hM]
  clear hW hr hx3 hy3 hO hx hy hA hC hM hB
  have HK : Hid (TOk w t la ln os da n c) := k
  have HWID : Hid (∀ A, Below w.heap.size w A → TW A) := fun A hA => hw.old hA
  have HLW : Hid (∀ A, Below w.heap.size w A → LW A) := fun A hA => hlw.old hA
  obtain ⟨E, hE⟩ : ∃ E, E = L4.tPutE (psOk V U x y) t := ⟨_, rfl⟩
  rw [← hE]
  have HEQ : Hid _ := hE
  unfold L4.tPutE at HEQ
  have QF : Hid _ := fit_any V U x y W
  have HPS : Hid (psOk V U x y = true → ∀ (m : Nat) (A : World), m ≤ 65535 → Calls Tryd.prog 45 #[.agg (ipCells V x), .agg (ipCells U y), .int .i64 6, .int .i64 m] A fun e w' => ∃ v, e = .returned (.tuple #[v, .int .i64 0]) ∧ OwnB w' A.heap.size v (psL V U x y 6 (m : Nat)).length (psL V U x y 6 (m : Nat)) ∧ Below A.heap.size A w') := by
    intro hok m A hm
    refine (pseudo_any V U x y 6 m A).mono ?_
    rintro e w' ⟨v, rfl, h1, _, h2⟩
    exact ⟨v, by rw [psE_ok hok (by simp [psIn]; omega)], h1, h2⟩
  obtain ⟨ok, hok⟩ : ∃ ok, ok = psOk V U x y := ⟨_, rfl⟩
  rw [← hok] at QF HEQ HPS
  obtain ⟨ol, hol⟩ : ∃ ol, ol = (I4.putO t.os).length := ⟨_, rfl⟩
  rw [← hol]
  have HOL : Hid ((I4.putO t.os).length = ol) := hol.symm
  have hol40 : ol ≤ 40 := by rw [hol]; exact (I4.put_len t.os).1
  clear hok hE hw hlw k hol
  go_enter Tryd.func24, Tryd.ntmps24
  go_upto_region 1 with fail
  rw [HB.out, HO.out, HW.out]
  go_wp2_with (first | (refine wpList_load_ip (.tmp 3) rfl B V x rfl HXB.out rfl ?_) | (refine wpList_load_ip (.tmp 4) rfl (B + 1) U y rfl HYB.out rfl ?_))
  refine Calls.mono QF.out ?_
  rintro e w1 ⟨rfl, hb1⟩
  have bel1 := bthen bel hb1
  have HR1 : Hid (TAt w1 O t la ln lc da n c) := HR.out.below hb1
  have HX1 : Hid (Boxed w1 B V x) := HXB.out.old hb1
  have HY1 : Hid (Boxed w1 (B + 1) U y) := HYB.out.old hb1
  clear QF hb1 HXB HYB HR HW
  cases ok with
  | false =>
    have HZ : Hid (E ≠ 0) := by show E ≠ 0; rw [HEQ.out]; simp
    have HE : Hid (E = 20) := HEQ.out
    clear HEQ
    go_wp2
    go_ret2
    exact ⟨_, E, (by rw [HE.out]; rfl), rfl, bel1, .inr ⟨HZ.out, rfl⟩⟩
  | true =>
  rw [if_pos rfl] at HEQ
  have HPS2 : Hid _ := HPS.out rfl
  have QC : Hid _ := chkT_any t la ln lc os da n c w1 (HLW.out w1 bel1) (HK.out.old bel1)
  obtain ⟨R, hR⟩ : ∃ R, R = L4.tChk t := ⟨_, rfl⟩
  rw [← hR] at QC HEQ
  have HCHKe : Hid (R = L4.tChk t) := hR
  clear HPS hR
  go_wp2_with (first | (refine wpList_load_t9 _ rfl O t la ln lc da n c rfl HR1.out rfl ?_))
  refine Calls.mono QC.out ?_
  rintro e w2 ⟨rfl, hb2⟩
  have bel2 := bthen bel1 hb2
  have HR2 : Hid (TAt w2 O t la ln lc da n c) := HR1.out.below hb2
  have HX2 : Hid (Boxed w2 B V x) := HX1.out.old hb2
  have HY2 : Hid (Boxed w2 (B + 1) U y) := HY1.out.old hb2
  clear QC hb2 HR1 HX1 HY1
  by_cases hz : R = 0
  case neg =>
    have b1 : ((R : Int) != 0) = true := by rw [bne_iff_ne]; omega
    have HZ : Hid (E ≠ 0) := by rw [HEQ.out]; exact hz
    clear hz
    go_wp2
    go_ret2
    exact ⟨_, E, (by rw [HEQ.out]; rfl), rfl, bel2, .inr ⟨HZ.out, rfl⟩⟩
  subst hz
  have HCHK : Hid (L4.tChk t = 0) := HCHKe.out.symm
  have hck := L4.tChk_zero HCHK.out
  have HOKF : Hid (L4.tOkF t = true) := hck.1
  have HPOK : Hid (L4.tPutOk t.os = true) := hck.2.1
  obtain ⟨sz, hsz⟩ : ∃ sz, sz = 20 + ol + n := ⟨_, rfl⟩
  have HSZ : Hid (sz = 20 + ol + n) := hsz
  have hsz65 : sz ≤ 65535 := by have := hck.2.2; rw [HK.out.d.dl, HOL.out] at this; omega
  have hsz20 : 20 ≤ sz := by omega
  have hk2 := HK.out.old bel2
  have QT : Hid _ := tput_any la ln lc os w2 (HLW.out w2 bel2) hk2.ol hk2.oat (by have := hk2.on; omega)
  rw [HK.out.ov] at QT
  have hE0 : tpE t.os = 0 := by unfold tpE; rw [HPOK.out]; rfl
  rw [hE0] at QT
  have c7 := HR2.out.c7
  clear HCHKe hsz hck hk2 hE0
  go_wp2_with fail
  refine Calls.mono QT.out ?_
  rintro e w3 ⟨v3, rfl, hb3, hr3⟩
  have bel3 := bthen bel2 hb3
  have HR3 : Hid (TAt w3 O t la ln lc da n c) := HR2.out.below hb3
  have HX3 : Hid (Boxed w3 B V x) := HX2.out.old hb3
  have HY3 : Hid (Boxed w3 (B + 1) U y) := HY2.out.old hb3
  obtain ⟨og, rfl, hoo⟩ : ∃ g, v3 = .slice (some ⟨g, 0, none⟩) ol ol ∧ OwnB w3 w2.heap.size (.slice (some ⟨g, 0, none⟩) ol ol) ol (I4.putO t.os) := by
    rcases hr3 with ⟨_, g, h1, h2⟩ | ⟨h1, _⟩
    · rw [HK.out.ov, HOL.out] at h1 h2
      rw [h1] at h2
      exact ⟨g, h1, h2⟩
    · rw [HK.out.ov, HPOK.out] at h1
      cases h1
  have HOO : Hid _ := hoo
  have HO256 : Hid (∀ z ∈ I4.putO t.os, z < 256) := by
    exact put_256 t.os (by rw [← HK.out.ov]; exact opts_256 HK.out.oat)
  have c8 := HR3.out.c8
  have QZ : Hid _ := tcpSize_any (some ⟨og, 0, none⟩) da ol n ol c w3 (by omega) HK.out.d.sm
  rw [← HSZ.out] at QZ
  clear QT hb3 hr3 hoo c7 HR2 HX2 HY2
  go_wp2_with fail
  refine Calls.mono QZ.out ?_
  rintro e w5 ⟨rfl, rfl⟩
  clear QZ c8
  have g0 : w3.cell? ⟨1, 0, none⟩ = some (.int .i64 16) := HWID.out w3 bel3 0 _ rfl
  have g1 : w3.cell? ⟨1, 1, none⟩ = some (.int .i64 16) := HWID.out w3 bel3 1 _ rfl
  have g2 : w3.cell? ⟨1, 2, none⟩ = some (.int .i64 32) := HWID.out w3 bel3 2 _ rfl
  have g3 : w3.cell? ⟨1, 3, none⟩ = some (.int .i64 32) := HWID.out w3 bel3 3 _ rfl
  have g4 : w3.cell? ⟨1, 4, none⟩ = some (.int .i64 4) := HWID.out w3 bel3 4 _ rfl
  have g5 : w3.cell? ⟨1, 5, none⟩ = some (.int .i64 4) := HWID.out w3 bel3 5 _ rfl
  have g6 : w3.cell? ⟨1, 6, none⟩ = some (.int .i64 8) := HWID.out w3 bel3 6 _ rfl
  have g7 : w3.cell? ⟨1, 7, none⟩ = some (.int .i64 16) := HWID.out w3 bel3 7 _ rfl
  have g8 : w3.cell? ⟨1, 8, none⟩ = some (.int .i64 16) := HWID.out w3 bel3 8 _ rfl
  have g9 : w3.cell? ⟨1, 9, none⟩ = some (.int .i64 16) := HWID.out w3 bel3 9 _ rfl
  obtain ⟨w6, hw6⟩ : ∃ w6, w6 = w3.alloc (.cells #[.int .i64 16, .int .i64 16, .int .i64 32, .int .i64 32, .int .i64 4, .int .i64 4, .int .i64 8, .int .i64 16, .int .i64 16, .int .i64 16] 84) := ⟨_, rfl⟩
  have hb6 : Below w3.heap.size w3 w6 := by rw [hw6]; exact (Below.refl _ _).alloc (Nat.le_refl _) _
  have bel6 := bthen bel3 hb6
  have HS8 : Hid (Seg .i64 w6 (some ⟨w3.heap.size, 0, none⟩) (toI L4T.ws)) := by rw [hw6]; exact segT w3
  have HW6 : Hid (w3.alloc (.cells #[.int .i64 16, .int .i64 16, .int .i64 32, .int .i64 32, .int .i64 4, .int .i64 4, .int .i64 8, .int .i64 16, .int .i64 16, .int .i64 16] 84) = w6) := hw6.symm
  have HR6 : Hid (TAt w6 O t la ln lc da n c) := HR3.out.below hb6
  have HX6 : Hid (Boxed w6 B V x) := HX3.out.old hb6
  have HY6 : Hid (Boxed w6 (B + 1) U y) := HY3.out.old hb6
  have HOO6 : Hid (OwnB w6 w2.heap.size (.slice (some ⟨og, 0, none⟩) ol ol) ol (I4.putO t.os)) := own_below HOO.out hb6
  obtain ⟨T5, hT5⟩ : ∃ T5, T5 = w3.heap.size := ⟨_, rfl⟩
  have HT5 : Hid (w3.heap.size = T5) := hT5.symm
  rw [← hT5] at HS8
  obtain ⟨h4, hh4⟩ : ∃ h4, h4 = (20 + ol) / 4 := ⟨_, rfl⟩
  have HH4 : Hid (h4 = L4.tHs t / 4) := by show _ = _; rw [hh4]; unfold L4.tHs; rw [HOL.out]
  have e20 : IntKind.i64.wrap (20 + (ol : Int)) = 20 + (ol : Int) := by rw [IntKind.wrap_i64]; omega
  have e4 : Int.tdiv (20 + (ol : Int)) 4 = (h4 : Int) := by
    rw [show (20 + (ol : Int)) = ((20 + ol : Nat) : Int) by omega, hh4]
    exact (Int.ofNat_tdiv (20 + ol) 4).symm
  have e4w : IntKind.i64.wrap (h4 : Int) = (h4 : Int) := by rw [IntKind.wrap_i64]; omega
  clear hb6 hw6 HR3 HX3 HY3 hT5 HOO hh4
  go_upto_region 11 with fail
  rw [HT5.out, HW6.out]
  clear g0 g1 g2 g3 g4 g5 g6 g7 g8 g9 HW6
  refine MixH.start (fun A => Below w6.heap.size w6 A) (by kernel_rfl) ?_
  obtain ⟨wA, hwA⟩ : ∃ wA, wA = w6.drew := ⟨_, rfl⟩
  have hS : Below w6.heap.size w6 wA := by rw [hwA]; exact (Below.refl _ _).drew
  rw [← hwA]
  clear hwA
  refine MixH.takes [true, true, false, true, false, true, false, true, false, true, true, true, true, true, false, true, false, true] 14 (by kernel_rfl) (by kernel_rfl) (by decide) (by kernel_rfl) hS (fun K hK => ?_)
  simp only [Mix.pick]
  repeat (go_big_quiet_step (fail))
  refine wpQuiet_nil (hK _ ?_)
  clear hK K
  refine MixH.take 13 2 _ (.int .i64 t.sp) rfl (by kernel_rfl) (by kernel_rfl) (by kernel_rfl) (by kernel_rfl) (yields_int (.tmp 40) rfl ⟨O, 0, none⟩ _ rfl rfl (fun A hA => (HR6.out.below hA).c0)) hS (fun a' ha => ?_)
  simp only [Act.put, List.setIfInBounds_toArray, List.set_cons_succ, List.set_cons_zero] at ha
  subst ha
  refine MixH.take 12 4 _ (.int .i64 t.dp) rfl (by kernel_rfl) (by kernel_rfl) (by kernel_rfl) (by kernel_rfl) (yields_int (.tmp 42) rfl ⟨O, 1, none⟩ _ rfl rfl (fun A hA => (HR6.out.below hA).c1)) hS (fun a' ha => ?_)
  simp only [Act.put, List.setIfInBounds_toArray, List.set_cons_succ, List.set_cons_zero] at ha
  subst ha
  refine MixH.take 11 6 _ (.int .i64 t.sq) rfl (by kernel_rfl) (by kernel_rfl) (by kernel_rfl) (by kernel_rfl) (yields_int (.tmp 44) rfl ⟨O, 2, none⟩ _ rfl rfl (fun A hA => (HR6.out.below hA).c2)) hS (fun a' ha => ?_)
  simp only [Act.put, List.setIfInBounds_toArray, List.set_cons_succ, List.set_cons_zero] at ha
  subst ha
  refine MixH.take 10 8 _ (.int .i64 t.ak) rfl (by kernel_rfl) (by kernel_rfl) (by kernel_rfl) (by kernel_rfl) (yields_int (.tmp 46) rfl ⟨O, 3, none⟩ _ rfl rfl (fun A hA => (HR6.out.below hA).c3)) hS (fun a' ha => ?_)
  simp only [Act.put, List.setIfInBounds_toArray, List.set_cons_succ, List.set_cons_zero] at ha
  subst ha
  refine MixH.take 9 14 _ (.int .i64 t.fl) rfl (by kernel_rfl) (by kernel_rfl) (by kernel_rfl) (by kernel_rfl) (yields_int (.tmp 52) rfl ⟨O, 4, none⟩ _ rfl rfl (fun A hA => (HR6.out.below hA).c4)) hS (fun a' ha => ?_)
  simp only [Act.put, List.setIfInBounds_toArray, List.set_cons_succ, List.set_cons_zero] at ha
  subst ha
  refine MixH.take 8 16 _ (.int .i64 t.wi) rfl (by kernel_rfl) (by kernel_rfl) (by kernel_rfl) (by kernel_rfl) (yields_int (.tmp 54) rfl ⟨O, 5, none⟩ _ rfl rfl (fun A hA => (HR6.out.below hA).c5)) hS (fun a' ha => ?_)
  simp only [Act.put, List.setIfInBounds_toArray, List.set_cons_succ, List.set_cons_zero] at ha
  subst ha
  refine MixH.take 7 18 _ (.int .i64 t.ur) rfl (by kernel_rfl) (by kernel_rfl) (by kernel_rfl) (by kernel_rfl) (yields_int (.tmp 56) rfl ⟨O, 6, none⟩ _ rfl rfl (fun A hA => (HR6.out.below hA).c6)) hS (fun a' ha => ?_)
  simp only [Act.put, List.setIfInBounds_toArray, List.set_cons_succ, List.set_cons_zero] at ha
  subst ha
  refine MixH.one [false, false, false, false, false, false, false, false, false, false, false, false, false, false, false, false, false, false, false, true] 6 19 _ rfl rfl (by kernel_rfl) (by kernel_rfl) (fun K hK => ?_)
  simp only [Mix.pick]
  have hSn := hS.alloc hS.size (.cells #[.int .i64 t.sp, .int .i64 t.dp, .int .i64 t.sq, .int .i64 t.ak, .int .i64 (h4 : Nat), .int .i64 0, .int .i64 t.fl, .int .i64 t.wi, .int .i64 0, .int .i64 t.ur] 3)
  have hseg2 := cells14 wA (tF t h4) 3
  simp only [tF, List.map_cons, List.map_nil] at hseg2
  go_wp2
  clear hS
  have hS := hSn
  refine ⟨rfl, hK _ _ hS ?_⟩
  clear hK K
  obtain ⟨w7, hw7⟩ : ∃ w7, w7 = wA.alloc (.cells #[.int .i64 t.sp, .int .i64 t.dp, .int .i64 t.sq, .int .i64 t.ak, .int .i64 (h4 : Nat), .int .i64 0, .int .i64 t.fl, .int .i64 t.wi, .int .i64 0, .int .i64 t.ur] 3) := ⟨_, rfl⟩
  rw [← hw7] at hSn hseg2 hS ⊢
  clear hw7 hSn
  refine MixH.one [false, false, false, false, false, false, false, false, false, false, false, false, false, false, false, false, false, false, false, false, true] 5 20 _ rfl rfl (by kernel_rfl) (by kernel_rfl) (fun K hK => ?_)
  simp only [Mix.pick]
  have Q1 : Hid _ := packT_ok (some ⟨T5, 0, none⟩) (some ⟨wA.heap.size, 0, none⟩) t h4 w7 HH4.out HOKF.out (HS8.out.old hS) hseg2
  go_wp2_with fail
  refine Calls.mono Q1.out ?_
  rintro e w8 ⟨g, gc, rfl, hb1, _, _, ho1⟩
  have HOH : Hid (OwnB w8 w.heap.size (.slice (some ⟨g, 0, none⟩) 20 gc) 20 (L4.tHd t 0)) := owns_mono ho1 (Nat.le_trans bel6.size hS.size)
  replace hS := bthen hS hb1
  clear Q1 hb1 ho1 hseg2
  go_wp2
  refine ⟨rfl, hK _ _ hS ?_⟩
  clear hK K
  refine MixH.takes [false, false, false, false, false, false, false, false, false, false, false, false, false, false, false, false, false, false, false, false, false, true] 4 (by kernel_rfl) (by kernel_rfl) (by decide) (by kernel_rfl) hS (fun K hK => ?_)
  simp only [Mix.pick]
  repeat (go_big_quiet_step (fail))
  refine wpQuiet_nil (hK _ ?_)
  clear hK K
  refine MixH.takes [false, false, false, false, false, false, false, false, false, false, false, false, false, false, false, false, false, false, false, false, false, false, true, true] 2 (by kernel_rfl) (by kernel_rfl) (by decide) (by kernel_rfl) hS (fun K hK => ?_)
  simp only [Mix.pick]
  repeat (go_big_quiet_step (fail))
  refine wpQuiet_nil (hK _ ?_)
  clear hK K
  refine MixH.takes [false, false, false, false, false, false, false, false, false, false, false, false, false, false, false, false, false, false, false, false, false, false, false, false, true] 1 (by kernel_rfl) (by kernel_rfl) (by decide) (by kernel_rfl) hS (fun K hK => ?_)
  simp only [Mix.pick]
  repeat (go_big_quiet_step (fail))
  refine wpQuiet_nil (hK _ ?_)
  clear hK K
  refine MixH.takes [false, false, false, false, false, false, false, false, false, false, false, false, false, false, false, false, false, false, false, false, false, false, false, false, false, true] 0 (by kernel_rfl) (by kernel_rfl) (by decide) (by kernel_rfl) hS (fun K hK => ?_)
  simp only [Mix.pick]
  repeat (go_big_quiet_step (fail))
  refine wpQuiet_nil (hK _ ?_)
  clear hK K
  refine MixH.done (by kernel_rfl) ?_
  have bel8 := bthen bel6 hS
  have HR8 : Hid (TAt w8 O t la ln lc da n c) := HR6.out.below hS
  have HX8 : Hid (Boxed w8 B V x) := HX6.out.old hS
  have HY8 : Hid (Boxed w8 (B + 1) U y) := HY6.out.old hS
  have HOO8 : Hid (OwnB w8 w2.heap.size (.slice (some ⟨og, 0, none⟩) ol ol) ol (I4.putO t.os)) := own_below HOO6.out hS
  have QP : Hid _ := HPS2.out sz w8 hsz65
  have H256 : Hid _ := psL_256 V U x y 6 (sz : Nat) HX.out HY.out
  have HL40 : Hid _ := psL_len V U x y 6 (sz : Nat)
  obtain ⟨pb, hpb⟩ : ∃ pb, pb = psL V U x y 6 (sz : Nat) := ⟨_, rfl⟩
  rw [← hpb] at QP H256 HL40
  have HPB : Hid (pb = psL V U x y 6 (sz : Nat)) := hpb
  clear hS HR6 HX6 HY6 HOO6 HS8 hpb HPS2 e20 e4 e4w
  go_upto_region 14 with fail
  go_wp2_with (first | (refine wpList_load_ip (.tmp 3) rfl B V x rfl HX8.out rfl ?_) | (refine wpList_load_ip (.tmp 4) rfl (B + 1) U y rfl HY8.out rfl ?_))
  refine Calls.mono QP.out ?_
  rintro e w9 ⟨v, rfl, ho9, hb9⟩
  obtain ⟨pa, pcp, hpv⟩ := owns_shape ho9
  subst hpv
  have bel9 := bthen bel8 hb9
  have HR9 : Hid (TAt w9 O t la ln lc da n c) := HR8.out.below hb9
  have hl256 : ∀ z ∈ L4.tHd t 0, z < 256 := L4.tHd_256 t 0 HOKF.out (by omega)
  have P0 : Part.ok w9 ⟨pa, pcp, pb⟩ := OwnB.part ho9 H256.out
  have P1 : Part.ok w9 ⟨some ⟨g, 0, none⟩, gc, L4.tHd t 0⟩ := (HOH.out.part hl256).old hb9
  have P2 : Part.ok w9 ⟨some ⟨og, 0, none⟩, ol, I4.putO t.os⟩ := (OwnB.part HOO8.out HO256.out).old hb9
  have P3 : Part.ok w9 ⟨da, c, t.d⟩ := (HK.out.d.old bel9).part
  have HPK : Hid (∀ A, Below w9.heap.size w9 A → (∀ p ∈ ([⟨pa, pcp, pb⟩, ⟨some ⟨g, 0, none⟩, gc, L4.tHd t 0⟩, ⟨some ⟨og, 0, none⟩, ol, I4.putO t.os⟩, ⟨da, c, t.d⟩] : List Part), p.ok A) ∧ (∀ p ∈ ([⟨some ⟨g, 0, none⟩, gc, L4.tHd t 0⟩, ⟨some ⟨og, 0, none⟩, ol, I4.putO t.os⟩, ⟨da, c, t.d⟩] : List Part), p.ok A)) := by
    intro A hA
    refine ⟨fun p hp => ?_, fun p hp => ?_⟩
    · simp at hp
      rcases hp with rfl | rfl | rfl | rfl
      · exact P0.old hA
      · exact P1.old hA
      · exact P2.old hA
      · exact P3.old hA
    · simp at hp
      rcases hp with rfl | rfl | rfl
      · exact P1.old hA
      · exact P2.old hA
      · exact P3.old hA
  have HDL : Hid (t.d.length = n) := HK.out.d.dl
  have HALL : Hid (allB [⟨pa, pcp, pb⟩, ⟨some ⟨g, 0, none⟩, gc, L4.tHd t 0⟩, ⟨some ⟨og, 0, none⟩, ol, I4.putO t.os⟩, ⟨da, c, t.d⟩] = pb ++ (L4.tHd t 0 ++ L4.tRest t)) := by show _ = _; simp [allB, L4.tRest]
  have HTOT : Hid ((allB [⟨pa, pcp, pb⟩, ⟨some ⟨g, 0, none⟩, gc, L4.tHd t 0⟩, ⟨some ⟨og, 0, none⟩, ol, I4.putO t.os⟩, ⟨da, c, t.d⟩]).length ≤ 1099511627776) := by
    show _ ≤ _
    rw [HALL.out]
    simp only [List.length_append, L4.tRest, L4.tHd_len]
    rw [HOL.out, HDL.out]
    have := HL40.out
    have := HSZ.out
    omega
  obtain ⟨s0, hs0⟩ : ∃ s0, s0 = 65535 - S.fold (S.wv false (pb ++ (L4.tHd t 0 ++ L4.tRest t))) := ⟨_, rfl⟩
  have HS0 : Hid (s0 = 65535 - S.fold (S.wv false (pb ++ (L4.tHd t 0 ++ L4.tRest t)))) := hs0
  have HS65 : Hid (s0 ≤ 65535) := by show _ ≤ _; rw [hs0]; exact Nat.sub_le _ _
  have HFLT : Hid (flat (([⟨some ⟨g, 0, none⟩, gc, L4.tHd t 0⟩, ⟨some ⟨og, 0, none⟩, ol, I4.putO t.os⟩, ⟨da, c, t.d⟩] : List Part).map (fun p => ⟨p.a, p.cap, p.l⟩)) = L4.tHd t 0 ++ L4.tRest t) := by show _ = _; simp [flat, L4.tRest]
  have HFL : Hid ((L4.tHd t 0 ++ L4.tRest t).length = sz) := by
    show _ = _
    simp only [List.length_append, L4.tRest, L4.tHd_len]
    rw [HOL.out, HDL.out, HSZ.out]
    omega
  have HSER : Hid (spl (L4.tHd t 0 ++ L4.tRest t) 16 (byN 2 s0) = L4.tSer t pb) := by
    show _ = _
    rw [splT t s0 _ HS65.out, hs0]
    rfl
  obtain ⟨pl, hpl⟩ : ∃ pl, pl = pb.length := ⟨_, rfl⟩
  rw [← hpl]
  have HPL : Hid (pb.length = pl) := hpl.symm
  clear QP ho9 hb9 P0 P1 P2 P3 hpl HR8 HX8 HY8 HOO8 HOH hs0 hl256
  go_upto_region 17 with fail
  refine MixH.start (fun A => Below w9.heap.size w9 A) (by kernel_rfl) ?_
  obtain ⟨wB, hwB⟩ : ∃ wB, wB = w9.drew := ⟨_, rfl⟩
  have hS : Below w9.heap.size w9 wB := by rw [hwB]; exact (Below.refl _ _).drew
  rw [← hwB]
  clear hwB
  refine MixH.takes [true, true, true, true, true, false, false, false, true, true, true] 10 (by kernel_rfl) (by kernel_rfl) (by decide) (by kernel_rfl) hS (fun K hK => ?_)
  simp only [Mix.pick]
  repeat (go_big_quiet_step (fail))
  refine wpQuiet_nil (hK _ ?_)
  clear hK K
  refine MixH.take 9 5 _ (.slice da n c) rfl (by kernel_rfl) (by kernel_rfl) (by kernel_rfl) (by kernel_rfl) (yields_bytes (.tmp 79) rfl ⟨O, 8, none⟩ _ rfl rfl (fun A hA => (HR9.out.below hA).c8)) hS (fun a' ha => ?_)
  simp only [Act.put, List.setIfInBounds_toArray, List.set_cons_succ, List.set_cons_zero] at ha
  subst ha
  refine MixH.take 8 11 _ (.slice da n c) rfl (by kernel_rfl) (by kernel_rfl) (by kernel_rfl) (by kernel_rfl) (yields_bytes (.tmp 85) rfl ⟨O, 8, none⟩ _ rfl rfl (fun A hA => (HR9.out.below hA).c8)) hS (fun a' ha => ?_)
  simp only [Act.put, List.setIfInBounds_toArray, List.set_cons_succ, List.set_cons_zero] at ha
  subst ha
  refine MixH.pair [false, false, false, false, false, false, true] [false, false, false, false, false, false, false, false, false, false, false, false, true] 7 6 12 _ _ rfl rfl rfl rfl (by kernel_rfl) (by kernel_rfl) (fun K hK => ?_) (fun K hK => ?_)
  · simp only [Mix.pick]
    have HB4 : Hid (∀ A, Below w9.heap.size w9 A → Below (wB.alloc (.cells #[.slice pa pl pcp, .slice (some ⟨g, 0, none⟩) 20 gc, .slice (some ⟨og, 0, none⟩) ol ol, .slice da n c] 25)).heap.size (wB.alloc (.cells #[.slice pa pl pcp, .slice (some ⟨g, 0, none⟩) 20 gc, .slice (some ⟨og, 0, none⟩) ol ol, .slice da n c] 25)) A → Parts A (some ⟨wB.heap.size, 0, none⟩) [⟨pa, pcp, pb⟩, ⟨some ⟨g, 0, none⟩, gc, L4.tHd t 0⟩, ⟨some ⟨og, 0, none⟩, ol, I4.putO t.os⟩, ⟨da, c, t.d⟩]) := fun A hA hB => (by
      have h := parts_new wB [⟨pa, pcp, pb⟩, ⟨some ⟨g, 0, none⟩, gc, L4.tHd t 0⟩, ⟨some ⟨og, 0, none⟩, ol, I4.putO t.os⟩, ⟨da, c, t.d⟩] 25 (HPK.out wB hS).1
      simp only [List.map_cons, List.map_nil, Part.val] at h
      rw [HPL.out, HOL.out, HDL.out] at h
      exact Parts.old h hB)
    have hSn := hS.alloc hS.size (.cells #[.slice pa pl pcp, .slice (some ⟨g, 0, none⟩) 20 gc, .slice (some ⟨og, 0, none⟩) ol ol, .slice da n c] 25)
    go_wp2
    clear hS
    have hS := hSn
    refine ⟨rfl, hK _ _ hS ?_⟩
    clear hK K
    have hB4 : Below (wB.alloc (.cells #[.slice pa pl pcp, .slice (some ⟨g, 0, none⟩) 20 gc, .slice (some ⟨og, 0, none⟩) ol ol, .slice da n c] 25)).heap.size (wB.alloc (.cells #[.slice pa pl pcp, .slice (some ⟨g, 0, none⟩) 20 gc, .slice (some ⟨og, 0, none⟩) ol ol, .slice da n c] 25)) (wB.alloc (.cells #[.slice pa pl pcp, .slice (some ⟨g, 0, none⟩) 20 gc, .slice (some ⟨og, 0, none⟩) ol ol, .slice da n c] 25)) := Below.refl _ _
    obtain ⟨b4, hb4⟩ : ∃ b4, b4 = wB.heap.size := ⟨_, rfl⟩
    obtain ⟨wq, hwq⟩ : ∃ wq, wq = wB.alloc (.cells #[.slice pa pl pcp, .slice (some ⟨g, 0, none⟩) 20 gc, .slice (some ⟨og, 0, none⟩) ol ol, .slice da n c] 25) := ⟨_, rfl⟩
    rw [← hwq] at HB4 hSn hS hB4 ⊢
    rw [← hb4] at HB4 ⊢
    clear hSn hwq hb4
    refine MixH.pair [false, false, false, false, false, false, false, true] [false, false, false, false, false, false, false, false, false, false, false, false, true] 6 7 12 _ _ rfl rfl rfl rfl (by kernel_rfl) (by kernel_rfl) (fun K hK => ?_) (fun K hK => ?_)
    · simp only [Mix.pick]
      have Q1 : Hid _ := check_any (some ⟨b4, 0, none⟩) 4 4 [⟨pa, pcp, pb⟩, ⟨some ⟨g, 0, none⟩, gc, L4.tHd t 0⟩, ⟨some ⟨og, 0, none⟩, ol, I4.putO t.os⟩, ⟨da, c, t.d⟩] wq rfl (HB4.out wq hS hB4) HTOT.out (by omega)
      rw [HALL.out] at Q1
      go_wp2_with fail
      refine Calls.mono Q1.out ?_
      rintro e wr ⟨rfl, hbq⟩
      rw [← HS0.out]
      have hS := bthen hS hbq
      clear Q1 hbq HB4 hB4
      go_wp2
      refine ⟨rfl, hK _ _ hS ?_⟩
      clear hK K
      refine MixH.one [false, false, false, false, false, false, false, false, false, false, false, false, true] 5 12 _ rfl rfl (by kernel_rfl) (by kernel_rfl) (fun K hK => ?_)
      simp only [Mix.pick]
      have HB3 : Hid (∀ A, Below w9.heap.size w9 A → Below (wr.alloc (.cells #[.slice (some ⟨g, 0, none⟩) 20 gc, .slice (some ⟨og, 0, none⟩) ol ol, .slice da n c] 25)).heap.size (wr.alloc (.cells #[.slice (some ⟨g, 0, none⟩) 20 gc, .slice (some ⟨og, 0, none⟩) ol ol, .slice da n c] 25)) A → Parts A (some ⟨wr.heap.size, 0, none⟩) [⟨some ⟨g, 0, none⟩, gc, L4.tHd t 0⟩, ⟨some ⟨og, 0, none⟩, ol, I4.putO t.os⟩, ⟨da, c, t.d⟩]) := fun A hA hB => (by
        have h := parts_new wr [⟨some ⟨g, 0, none⟩, gc, L4.tHd t 0⟩, ⟨some ⟨og, 0, none⟩, ol, I4.putO t.os⟩, ⟨da, c, t.d⟩] 25 (HPK.out wr hS).2
        simp only [List.map_cons, List.map_nil, Part.val] at h
        rw [HOL.out, HDL.out] at h
        exact Parts.old h hB)
      have hSn := hS.alloc hS.size (.cells #[.slice (some ⟨g, 0, none⟩) 20 gc, .slice (some ⟨og, 0, none⟩) ol ol, .slice da n c] 25)
      have hn3 : Below wr.heap.size wr (wr.alloc (.cells #[.slice (some ⟨g, 0, none⟩) 20 gc, .slice (some ⟨og, 0, none⟩) ol ol, .slice da n c] 25)) := (Below.refl _ _).alloc (Nat.le_refl _) _
      go_wp2
      clear hS
      have hS := hSn
      refine ⟨rfl, hK _ _ hS ?_⟩
      clear hK K
      have hB3 : Below (wr.alloc (.cells #[.slice (some ⟨g, 0, none⟩) 20 gc, .slice (some ⟨og, 0, none⟩) ol ol, .slice da n c] 25)).heap.size (wr.alloc (.cells #[.slice (some ⟨g, 0, none⟩) 20 gc, .slice (some ⟨og, 0, none⟩) ol ol, .slice da n c] 25)) (wr.alloc (.cells #[.slice (some ⟨g, 0, none⟩) 20 gc, .slice (some ⟨og, 0, none⟩) ol ol, .slice da n c] 25)) := Below.refl _ _
      obtain ⟨b3, hb3⟩ : ∃ b3, b3 = wr.heap.size := ⟨_, rfl⟩
      obtain ⟨ws, hws⟩ : ∃ ws, ws = wr.alloc (.cells #[.slice (some ⟨g, 0, none⟩) 20 gc, .slice (some ⟨og, 0, none⟩) ol ol, .slice da n c] 25) := ⟨_, rfl⟩
      rw [← hws] at HB3 hSn hS hB3 ⊢
      rw [← hb3] at HB3 ⊢
      clear hSn hws hb3 hn3
      refine MixH.one [false, false, false, false, false, false, false, false, false, false, false, false, false, true] 4 13 _ rfl rfl (by kernel_rfl) (by kernel_rfl) (fun K hK => ?_)
      simp only [Mix.pick]
      have QJ : Hid _ := joined_any sz 16 s0 (some ⟨b3, 0, none⟩) 3 3 (([⟨some ⟨g, 0, none⟩, gc, L4.tHd t 0⟩, ⟨some ⟨og, 0, none⟩, ol, I4.putO t.os⟩, ⟨da, c, t.d⟩] : List Part).map (fun p => ⟨p.a, p.cap, p.l⟩)) ws rfl (partsAt_of (HB3.out ws hS hB3)) (by rw [HFLT.out]; exact HFL.out) hsz65 (by omega) HS65.out (by omega)
      rw [HFLT.out, HSER.out] at QJ
      go_wp2_with fail
      refine Calls.mono QJ.out ?_
      rintro e wz ⟨gz, rfl, hoz, hbz⟩
      have HOZ : Hid (OwnB wz w.heap.size (.slice (some ⟨gz, 0, none⟩) sz sz) sz (L4.tSer t pb)) := owns_le hoz (Nat.le_trans bel9.size hS.size)
      have hS := bthen hS hbz
      clear QJ hoz hbz
      go_wp2
      refine ⟨rfl, hK _ _ hS ?_⟩
      clear hK K
      refine MixH.takes [false, false, false, false, false, false, false, false, false, false, false, false, false, false, true, true] 2 (by kernel_rfl) (by kernel_rfl) (by decide) (by kernel_rfl) hS (fun K hK => ?_)
      simp only [Mix.pick]
      repeat (go_big_quiet_step (fail))
      refine wpQuiet_nil (hK _ ?_)
      clear hK K
      refine MixH.takes [false, false, false, false, false, false, false, false, false, false, false, false, false, false, false, false, true] 1 (by kernel_rfl) (by kernel_rfl) (by decide) (by kernel_rfl) hS (fun K hK => ?_)
      simp only [Mix.pick]
      repeat (go_big_quiet_step (fail))
      refine wpQuiet_nil (hK _ ?_)
      clear hK K
      refine MixH.takes [false, false, false, false, false, false, false, false, false, false, false, false, false, false, false, false, false, true] 0 (by kernel_rfl) (by kernel_rfl) (by decide) (by kernel_rfl) hS (fun K hK => ?_)
      simp only [Mix.pick]
      repeat (go_big_quiet_step (fail))
      refine wpQuiet_nil (hK _ ?_)
      clear hK K
      refine MixH.done (by kernel_rfl) ?_
      have HFZ : Hid (Below w.heap.size w wz) := bthen bel9 hS
      clear hS
      go_wp2
      go_ret2
      exact ⟨_, E, (by rw [HEQ.out]; rfl), rfl, HFZ.out, .inl ⟨HEQ.out, gz, (by rw [← HSZ.out]; rfl), (by rw [← HSZ.out, ← HPB.out]; exact HOZ.out)⟩⟩
    · simp only [Mix.pick]
      have HB3 : Hid (∀ A, Below w9.heap.size w9 A → Below (wq.alloc (.cells #[.slice (some ⟨g, 0, none⟩) 20 gc, .slice (some ⟨og, 0, none⟩) ol ol, .slice da n c] 25)).heap.size (wq.alloc (.cells #[.slice (some ⟨g, 0, none⟩) 20 gc, .slice (some ⟨og, 0, none⟩) ol ol, .slice da n c] 25)) A → Parts A (some ⟨wq.heap.size, 0, none⟩) [⟨some ⟨g, 0, none⟩, gc, L4.tHd t 0⟩, ⟨some ⟨og, 0, none⟩, ol, I4.putO t.os⟩, ⟨da, c, t.d⟩]) := fun A hA hB => (by
        have h := parts_new wq [⟨some ⟨g, 0, none⟩, gc, L4.tHd t 0⟩, ⟨some ⟨og, 0, none⟩, ol, I4.putO t.os⟩, ⟨da, c, t.d⟩] 25 (HPK.out wq hS).2
        simp only [List.map_cons, List.map_nil, Part.val] at h
        rw [HOL.out, HDL.out] at h
        exact Parts.old h hB)
      have hSn := hS.alloc hS.size (.cells #[.slice (some ⟨g, 0, none⟩) 20 gc, .slice (some ⟨og, 0, none⟩) ol ol, .slice da n c] 25)
      have hn3 : Below wq.heap.size wq (wq.alloc (.cells #[.slice (some ⟨g, 0, none⟩) 20 gc, .slice (some ⟨og, 0, none⟩) ol ol, .slice da n c] 25)) := (Below.refl _ _).alloc (Nat.le_refl _) _
      go_wp2
      clear hS
      have hS := hSn
      refine ⟨rfl, hK _ _ hS ?_⟩
      clear hK K
      have hB3 : Below (wq.alloc (.cells #[.slice (some ⟨g, 0, none⟩) 20 gc, .slice (some ⟨og, 0, none⟩) ol ol, .slice da n c] 25)).heap.size (wq.alloc (.cells #[.slice (some ⟨g, 0, none⟩) 20 gc, .slice (some ⟨og, 0, none⟩) ol ol, .slice da n c] 25)) (wq.alloc (.cells #[.slice (some ⟨g, 0, none⟩) 20 gc, .slice (some ⟨og, 0, none⟩) ol ol, .slice da n c] 25)) := Below.refl _ _
      have hB4 := bthen hB4 hn3
      obtain ⟨b3, hb3⟩ : ∃ b3, b3 = wq.heap.size := ⟨_, rfl⟩
      obtain ⟨wr, hwr⟩ : ∃ wr, wr = wq.alloc (.cells #[.slice (some ⟨g, 0, none⟩) 20 gc, .slice (some ⟨og, 0, none⟩) ol ol, .slice da n c] 25) := ⟨_, rfl⟩
      rw [← hwr] at HB3 hSn hS hB3 hB4 ⊢
      rw [← hb3] at HB3 ⊢
      clear hSn hwr hb3 hn3
      refine MixH.one [false, false, false, false, false, false, false, true] 5 7 _ rfl rfl (by kernel_rfl) (by kernel_rfl) (fun K hK => ?_)
      simp only [Mix.pick]
      have Q1 : Hid _ := check_any (some ⟨b4, 0, none⟩) 4 4 [⟨pa, pcp, pb⟩, ⟨some ⟨g, 0, none⟩, gc, L4.tHd t 0⟩, ⟨some ⟨og, 0, none⟩, ol, I4.putO t.os⟩, ⟨da, c, t.d⟩] wr rfl (HB4.out wr hS hB4) HTOT.out (by omega)
      rw [HALL.out] at Q1
      go_wp2_with fail
      refine Calls.mono Q1.out ?_
      rintro e ws ⟨rfl, hbq⟩
      rw [← HS0.out]
      have hS := bthen hS hbq
      have hB3 := bthen hB3 hbq
      clear Q1 hbq HB4 hB4
      go_wp2
      refine ⟨rfl, hK _ _ hS ?_⟩
      clear hK K
      refine MixH.one [false, false, false, false, false, false, false, false, false, false, false, false, false, true] 4 13 _ rfl rfl (by kernel_rfl) (by kernel_rfl) (fun K hK => ?_)
      simp only [Mix.pick]
      have QJ : Hid _ := joined_any sz 16 s0 (some ⟨b3, 0, none⟩) 3 3 (([⟨some ⟨g, 0, none⟩, gc, L4.tHd t 0⟩, ⟨some ⟨og, 0, none⟩, ol, I4.putO t.os⟩, ⟨da, c, t.d⟩] : List Part).map (fun p => ⟨p.a, p.cap, p.l⟩)) ws rfl (partsAt_of (HB3.out ws hS hB3)) (by rw [HFLT.out]; exact HFL.out) hsz65 (by omega) HS65.out (by omega)
      rw [HFLT.out, HSER.out] at QJ
      go_wp2_with fail
      refine Calls.mono QJ.out ?_
      rintro e wz ⟨gz, rfl, hoz, hbz⟩
      have HOZ : Hid (OwnB wz w.heap.size (.slice (some ⟨gz, 0, none⟩) sz sz) sz (L4.tSer t pb)) := owns_le hoz (Nat.le_trans bel9.size hS.size)
      have hS := bthen hS hbz
      clear QJ hoz hbz
      go_wp2
      refine ⟨rfl, hK _ _ hS ?_⟩
      clear hK K
      refine MixH.takes [false, false, false, false, false, false, false, false, false, false, false, false, false, false, true, true] 2 (by kernel_rfl) (by kernel_rfl) (by decide) (by kernel_rfl) hS (fun K hK => ?_)
      simp only [Mix.pick]
      repeat (go_big_quiet_step (fail))
      refine wpQuiet_nil (hK _ ?_)
      clear hK K
      refine MixH.takes [false, false, false, false, false, false, false, false, false, false, false, false, false, false, false, false, true] 1 (by kernel_rfl) (by kernel_rfl) (by decide) (by kernel_rfl) hS (fun K hK => ?_)
      simp only [Mix.pick]
      repeat (go_big_quiet_step (fail))
      refine wpQuiet_nil (hK _ ?_)
      clear hK K
      refine MixH.takes [false, false, false, false, false, false, false, false, false, false, false, false, false, false, false, false, false, true] 0 (by kernel_rfl) (by kernel_rfl) (by decide) (by kernel_rfl) hS (fun K hK => ?_)
      simp only [Mix.pick]
      repeat (go_big_quiet_step (fail))
      refine wpQuiet_nil (hK _ ?_)
      clear hK K
      refine MixH.done (by kernel_rfl) ?_
      have HFZ : Hid (Below w.heap.size w wz) := bthen bel9 hS
      clear hS
      go_wp2
      go_ret2
      exact ⟨_, E, (by rw [HEQ.out]; rfl), rfl, HFZ.out, .inl ⟨HEQ.out, gz, (by rw [← HSZ.out]; rfl), (by rw [← HSZ.out, ← HPB.out]; exact HOZ.out)⟩⟩
  · simp only [Mix.pick]
    have HB3 : Hid (∀ A, Below w9.heap.size w9 A → Below (wB.alloc (.cells #[.slice (some ⟨g, 0, none⟩) 20 gc, .slice (some ⟨og, 0, none⟩) ol ol, .slice da n c] 25)).heap.size (wB.alloc (.cells #[.slice (some ⟨g, 0, none⟩) 20 gc, .slice (some ⟨og, 0, none⟩) ol ol, .slice da n c] 25)) A → Parts A (some ⟨wB.heap.size, 0, none⟩) [⟨some ⟨g, 0, none⟩, gc, L4.tHd t 0⟩, ⟨some ⟨og, 0, none⟩, ol, I4.putO t.os⟩, ⟨da, c, t.d⟩]) := fun A hA hB => (by
      have h := parts_new wB [⟨some ⟨g, 0, none⟩, gc, L4.tHd t 0⟩, ⟨some ⟨og, 0, none⟩, ol, I4.putO t.os⟩, ⟨da, c, t.d⟩] 25 (HPK.out wB hS).2
      simp only [List.map_cons, List.map_nil, Part.val] at h
      rw [HOL.out, HDL.out] at h
      exact Parts.old h hB)
    have hSn := hS.alloc hS.size (.cells #[.slice (some ⟨g, 0, none⟩) 20 gc, .slice (some ⟨og, 0, none⟩) ol ol, .slice da n c] 25)
    have hn3 : Below wB.heap.size wB (wB.alloc (.cells #[.slice (some ⟨g, 0, none⟩) 20 gc, .slice (some ⟨og, 0, none⟩) ol ol, .slice da n c] 25)) := (Below.refl _ _).alloc (Nat.le_refl _) _
    go_wp2
    clear hS
    have hS := hSn
    refine ⟨rfl, hK _ _ hS ?_⟩
    clear hK K
    have hB3 : Below (wB.alloc (.cells #[.slice (some ⟨g, 0, none⟩) 20 gc, .slice (some ⟨og, 0, none⟩) ol ol, .slice da n c] 25)).heap.size (wB.alloc (.cells #[.slice (some ⟨g, 0, none⟩) 20 gc, .slice (some ⟨og, 0, none⟩) ol ol, .slice da n c] 25)) (wB.alloc (.cells #[.slice (some ⟨g, 0, none⟩) 20 gc, .slice (some ⟨og, 0, none⟩) ol ol, .slice da n c] 25)) := Below.refl _ _
    obtain ⟨b3, hb3⟩ : ∃ b3, b3 = wB.heap.size := ⟨_, rfl⟩
    obtain ⟨wq, hwq⟩ : ∃ wq, wq = wB.alloc (.cells #[.slice (some ⟨g, 0, none⟩) 20 gc, .slice (some ⟨og, 0, none⟩) ol ol, .slice da n c] 25) := ⟨_, rfl⟩
    rw [← hwq] at HB3 hSn hS hB3 ⊢
    rw [← hb3] at HB3 ⊢
    clear hSn hwq hb3 hn3
    refine MixH.one [false, false, false, false, false, false, true] 6 6 _ rfl rfl (by kernel_rfl) (by kernel_rfl) (fun K hK => ?_)
    simp only [Mix.pick]
    have HB4 : Hid (∀ A, Below w9.heap.size w9 A → Below (wq.alloc (.cells #[.slice pa pl pcp, .slice (some ⟨g, 0, none⟩) 20 gc, .slice (some ⟨og, 0, none⟩) ol ol, .slice da n c] 25)).heap.size (wq.alloc (.cells #[.slice pa pl pcp, .slice (some ⟨g, 0, none⟩) 20 gc, .slice (some ⟨og, 0, none⟩) ol ol, .slice da n c] 25)) A → Parts A (some ⟨wq.heap.size, 0, none⟩) [⟨pa, pcp, pb⟩, ⟨some ⟨g, 0, none⟩, gc, L4.tHd t 0⟩, ⟨some ⟨og, 0, none⟩, ol, I4.putO t.os⟩, ⟨da, c, t.d⟩]) := fun A hA hB => (by
      have h := parts_new wq [⟨pa, pcp, pb⟩, ⟨some ⟨g, 0, none⟩, gc, L4.tHd t 0⟩, ⟨some ⟨og, 0, none⟩, ol, I4.putO t.os⟩, ⟨da, c, t.d⟩] 25 (HPK.out wq hS).1
      simp only [List.map_cons, List.map_nil, Part.val] at h
      rw [HPL.out, HOL.out, HDL.out] at h
      exact Parts.old h hB)
    have hn4 : Below wq.heap.size wq (wq.alloc (.cells #[.slice pa pl pcp, .slice (some ⟨g, 0, none⟩) 20 gc, .slice (some ⟨og, 0, none⟩) ol ol, .slice da n c] 25)) := (Below.refl _ _).alloc (Nat.le_refl _) _
    have hSn := hS.alloc hS.size (.cells #[.slice pa pl pcp, .slice (some ⟨g, 0, none⟩) 20 gc, .slice (some ⟨og, 0, none⟩) ol ol, .slice da n c] 25)
    go_wp2
    clear hS
    have hS := hSn
    refine ⟨rfl, hK _ _ hS ?_⟩
    clear hK K
    have hB3 := bthen hB3 hn4
    have hB4 : Below (wq.alloc (.cells #[.slice pa pl pcp, .slice (some ⟨g, 0, none⟩) 20 gc, .slice (some ⟨og, 0, none⟩) ol ol, .slice da n c] 25)).heap.size (wq.alloc (.cells #[.slice pa pl pcp, .slice (some ⟨g, 0, none⟩) 20 gc, .slice (some ⟨og, 0, none⟩) ol ol, .slice da n c] 25)) (wq.alloc (.cells #[.slice pa pl pcp, .slice (some ⟨g, 0, none⟩) 20 gc, .slice (some ⟨og, 0, none⟩) ol ol, .slice da n c] 25)) := Below.refl _ _
    obtain ⟨b4, hb4⟩ : ∃ b4, b4 = wq.heap.size := ⟨_, rfl⟩
    obtain ⟨wr, hwr⟩ : ∃ wr, wr = wq.alloc (.cells #[.slice pa pl pcp, .slice (some ⟨g, 0, none⟩) 20 gc, .slice (some ⟨og, 0, none⟩) ol ol, .slice da n c] 25) := ⟨_, rfl⟩
    rw [← hwr] at HB4 hSn hS hB4 hB3 ⊢
    rw [← hb4] at HB4 ⊢
    clear hSn hwr hb4 hn4
    refine MixH.one [false, false, false, false, false, false, false, true] 5 7 _ rfl rfl (by kernel_rfl) (by kernel_rfl) (fun K hK => ?_)
    simp only [Mix.pick]
    have Q1 : Hid _ := check_any (some ⟨b4, 0, none⟩) 4 4 [⟨pa, pcp, pb⟩, ⟨some ⟨g, 0, none⟩, gc, L4.tHd t 0⟩, ⟨some ⟨og, 0, none⟩, ol, I4.putO t.os⟩, ⟨da, c, t.d⟩] wr rfl (HB4.out wr hS hB4) HTOT.out (by omega)
    rw [HALL.out] at Q1
    go_wp2_with fail
    refine Calls.mono Q1.out ?_
    rintro e ws ⟨rfl, hbq⟩
    rw [← HS0.out]
    have hS := bthen hS hbq
    have hB3 := bthen hB3 hbq
    clear Q1 hbq HB4 hB4
    go_wp2
    refine ⟨rfl, hK _ _ hS ?_⟩
    clear hK K
    refine MixH.one [false, false, false, false, false, false, false, false, false, false, false, false, false, true] 4 13 _ rfl rfl (by kernel_rfl) (by kernel_rfl) (fun K hK => ?_)
    simp only [Mix.pick]
    have QJ : Hid _ := joined_any sz 16 s0 (some ⟨b3, 0, none⟩) 3 3 (([⟨some ⟨g, 0, none⟩, gc, L4.tHd t 0⟩, ⟨some ⟨og, 0, none⟩, ol, I4.putO t.os⟩, ⟨da, c, t.d⟩] : List Part).map (fun p => ⟨p.a, p.cap, p.l⟩)) ws rfl (partsAt_of (HB3.out ws hS hB3)) (by rw [HFLT.out]; exact HFL.out) hsz65 (by omega) HS65.out (by omega)
    rw [HFLT.out, HSER.out] at QJ
    go_wp2_with fail
    refine Calls.mono QJ.out ?_
    rintro e wz ⟨gz, rfl, hoz, hbz⟩
    have HOZ : Hid (OwnB wz w.heap.size (.slice (some ⟨gz, 0, none⟩) sz sz) sz (L4.tSer t pb)) := owns_le hoz (Nat.le_trans bel9.size hS.size)
    have hS := bthen hS hbz
    clear QJ hoz hbz
    go_wp2
    refine ⟨rfl, hK _ _ hS ?_⟩
    clear hK K
    refine MixH.takes [false, false, false, false, false, false, false, false, false, false, false, false, false, false, true, true] 2 (by kernel_rfl) (by kernel_rfl) (by decide) (by kernel_rfl) hS (fun K hK => ?_)
    simp only [Mix.pick]
    repeat (go_big_quiet_step (fail))
    refine wpQuiet_nil (hK _ ?_)
    clear hK K
    refine MixH.takes [false, false, false, false, false, false, false, false, false, false, false, false, false, false, false, false, true] 1 (by kernel_rfl) (by kernel_rfl) (by decide) (by kernel_rfl) hS (fun K hK => ?_)
    simp only [Mix.pick]
    repeat (go_big_quiet_step (fail))
    refine wpQuiet_nil (hK _ ?_)
    clear hK K
    refine MixH.takes [false, false, false, false, false, false, false, false, false, false, false, false, false, false, false, false, false, true] 0 (by kernel_rfl) (by kernel_rfl) (by decide) (by kernel_rfl) hS (fun K hK => ?_)
    simp only [Mix.pick]
    repeat (go_big_quiet_step (fail))
    refine wpQuiet_nil (hK _ ?_)
    clear hK K
    refine MixH.done (by kernel_rfl) ?_
    have HFZ : Hid (Below w.heap.size w wz) := bthen bel9 hS
    clear hS
    go_wp2
    go_ret2
    exact ⟨_, E, (by rw [HEQ.out]; rfl), rfl, HFZ.out, .inl ⟨HEQ.out, gz, (by rw [← HSZ.out]; rfl), (by rw [← HSZ.out, ← HPB.out]; exact HOZ.out)⟩⟩
end Go.Proofs.YtfoeepbndfnifaaDoor
