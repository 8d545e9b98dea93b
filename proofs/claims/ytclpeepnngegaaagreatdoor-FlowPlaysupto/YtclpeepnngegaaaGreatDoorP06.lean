/-
  FlFn2: lemmas of the proof of FlowPlays, and walks through the functions that it calls.
-/
import Derived.Maps.RangeWalk
import Derived.Test.YtclpeepnngegaaaGreatDoorP00
import Derived.Test.YtclpeepnngegaaaGreatDoorP05
namespace Go.Proofs.YtclpeepnngegaaaGreatDoor
open Go.RowKit Go.Maps
def hasB (fl b : Int) : Bool := bits .and .i64 fl b == b
set_option maxHeartbeats 1600000 in
set_option maxRecDepth 100000 in
theorem has_any (b fl : Int) (O : Nat) (w : World) (hc : w.cell? ⟨O, 0, none⟩ = some (.int .i64 fl)) : Calls Tryz.prog 49 #[.int .i64 b, .pointer (some ⟨O, 0, none⟩)] w fun r w' => r = .returned (.bool (hasB fl b)) ∧ w = w' := by
 go_enter Tryz.func49, Tryz.ntmps49
 go_wp2
 go_ret
 exact ⟨rfl, rfl⟩
def sgN (pr fl : Int) : Int := if pr == 6 then (if hasB fl 4 then 4 else if hasB fl 3 then 5 else if hasB fl 18 then 2 else if hasB fl 2 then 1 else if hasB fl 1 then 3 else 0) else 6
theorem sgN_lt (pr fl : Int) : 0 ≤ sgN pr fl ∧ sgN pr fl < 7 := by
 unfold sgN
 repeat' split
 all_goals decide
set_option maxHeartbeats 1600000 in
set_option maxRecDepth 100000 in
theorem segment_any (pr fl : Int) (w : World) : Calls Tryz.prog 27 #[.int .i64 pr, .int .i64 fl] w fun r w' => r = .returned (.int .i64 (sgN pr fl)) ∧ Below w.heap.size w w' := by
 obtain ⟨b1, hb1⟩ : ∃ b, (pr == 6) = b := ⟨_, rfl⟩
 have q1 : (pr != 6) = !b1 := by rw [← hb1]; rfl
 have HB1 : Hid ((pr == 6) = b1) := hb1
 obtain ⟨W, hW⟩ : ∃ W, W = w.alloc (.cells #[.int .i64 fl] 3) := ⟨_, rfl⟩
 have HL : Hid (Below w.heap.size w W) := by show Below w.heap.size w W; rw [hW]; exact (Below.refl _ _).alloc (Nat.le_refl _) _
 have HC : Hid (W.cell? ⟨w.heap.size, 0, none⟩ = some (.int .i64 fl)) := by
  show W.cell? ⟨w.heap.size, 0, none⟩ = some (.int .i64 fl)
  have := heap_alloc_new w (.cells #[.int .i64 fl] 3)
  rw [hW]
  simp only [World.cell?, this]
  rfl
 have HW : Hid (w.alloc (.cells #[.int .i64 fl] 3) = W) := hW.symm
 obtain ⟨O, hO⟩ : ∃ O, O = w.heap.size := ⟨_, rfl⟩
 have HO : Hid (w.heap.size = O) := hO.symm
 rw [← hO] at HC
 clear hb1 hW hO
 go_enter Tryz.func27, Tryz.ntmps27
 go_upto_region 1 with fail
 rw [HO.out, HW.out]
 cases b1 with
 | false =>
  go_wp2_with fail
  go_ret
  exact ⟨by unfold sgN; rw [HB1.out]; rfl, HL.out⟩
 | true =>
  obtain ⟨c0, hc0⟩ : ∃ c, hasB fl 4 = c := ⟨_, rfl⟩
  have Q0 : Hid _ := has_any 4 fl O W HC.out
  rw [hc0] at Q0
  have HC0 : Hid (hasB fl 4 = c0) := hc0
  clear hc0
  go_wp2_with fail
  refine Calls.mono Q0.out ?_
  rintro e w1 ⟨rfl, rfl⟩
  clear Q0
  cases c0 with
  | true =>
   go_wp2_with fail
   go_ret
   exact ⟨by unfold sgN; rw [HB1.out, HC0.out]; rfl, HL.out⟩
  | false =>
   obtain ⟨c1, hc1⟩ : ∃ c, hasB fl 3 = c := ⟨_, rfl⟩
   have Q1 : Hid _ := has_any 3 fl O W HC.out
   rw [hc1] at Q1
   have HC1 : Hid (hasB fl 3 = c1) := hc1
   clear hc1
   go_wp2_with fail
   refine Calls.mono Q1.out ?_
   rintro e w1 ⟨rfl, rfl⟩
   clear Q1
   cases c1 with
   | true =>
    go_wp2_with fail
    go_ret
    exact ⟨by unfold sgN; rw [HB1.out, HC0.out, HC1.out]; rfl, HL.out⟩
   | false =>
    obtain ⟨c2, hc2⟩ : ∃ c, hasB fl 18 = c := ⟨_, rfl⟩
    have Q2 : Hid _ := has_any 18 fl O W HC.out
    rw [hc2] at Q2
    have HC2 : Hid (hasB fl 18 = c2) := hc2
    clear hc2
    go_wp2_with fail
    refine Calls.mono Q2.out ?_
    rintro e w1 ⟨rfl, rfl⟩
    clear Q2
    cases c2 with
    | true =>
     go_wp2_with fail
     go_ret
     exact ⟨by unfold sgN; rw [HB1.out, HC0.out, HC1.out, HC2.out]; rfl, HL.out⟩
    | false =>
     obtain ⟨c3, hc3⟩ : ∃ c, hasB fl 2 = c := ⟨_, rfl⟩
     have Q3 : Hid _ := has_any 2 fl O W HC.out
     rw [hc3] at Q3
     have HC3 : Hid (hasB fl 2 = c3) := hc3
     clear hc3
     go_wp2_with fail
     refine Calls.mono Q3.out ?_
     rintro e w1 ⟨rfl, rfl⟩
     clear Q3
     cases c3 with
     | true =>
      go_wp2_with fail
      go_ret
      exact ⟨by unfold sgN; rw [HB1.out, HC0.out, HC1.out, HC2.out, HC3.out]; rfl, HL.out⟩
     | false =>
      obtain ⟨c4, hc4⟩ : ∃ c, hasB fl 1 = c := ⟨_, rfl⟩
      have Q4 : Hid _ := has_any 1 fl O W HC.out
      rw [hc4] at Q4
      have HC4 : Hid (hasB fl 1 = c4) := hc4
      clear hc4
      go_wp2_with fail
      refine Calls.mono Q4.out ?_
      rintro e w1 ⟨rfl, rfl⟩
      clear Q4
      cases c4 with
      | true =>
       go_wp2_with fail
       go_ret
       exact ⟨by unfold sgN; rw [HB1.out, HC0.out, HC1.out, HC2.out, HC3.out, HC4.out]; rfl, HL.out⟩
      | false =>
       go_wp2_with fail
       go_ret
       exact ⟨by unfold sgN; rw [HB1.out, HC0.out, HC1.out, HC2.out, HC3.out, HC4.out]; rfl, HL.out⟩
def tkN (c : CF) (pr st : Int) : Int := if st == 1 || st == 2 then c.sy else if st == 3 then c.tc else if st == 7 then (if pr == 17 then c.ud else c.ic) else c.fi
theorem CfgAt.c20 {w : World} {O : Nat} {c : CF} (h : CfgAt w O c) : w.cell? ⟨O, 20, none⟩ = some (.int .i64 c.sy) := h.cell 20
theorem CfgAt.c21 {w : World} {O : Nat} {c : CF} (h : CfgAt w O c) : w.cell? ⟨O, 21, none⟩ = some (.int .i64 c.tc) := h.cell 21
theorem CfgAt.c22 {w : World} {O : Nat} {c : CF} (h : CfgAt w O c) : w.cell? ⟨O, 22, none⟩ = some (.int .i64 c.fi) := h.cell 22
theorem CfgAt.c23 {w : World} {O : Nat} {c : CF} (h : CfgAt w O c) : w.cell? ⟨O, 23, none⟩ = some (.int .i64 c.ud) := h.cell 23
theorem CfgAt.c24 {w : World} {O : Nat} {c : CF} (h : CfgAt w O c) : w.cell? ⟨O, 24, none⟩ = some (.int .i64 c.ic) := h.cell 24
set_option maxHeartbeats 1600000 in
set_option maxRecDepth 100000 in
theorem ticks_any (c : CF) (pr st : Int) (w : World) : Calls Tryz.prog 51 #[.agg (cfC c), .int .i64 pr, .int .i64 st] w fun r w' => r = .returned (.int .i64 (tkN c pr st)) ∧ Below w.heap.size w w' := by
 obtain ⟨W, B, HSZX, HOX, HLX, HWX, hb⟩ := zBx w (cfC c) 26
 have HBX : Hid (CfgAt W B c) := hb
 obtain ⟨CX, hC⟩ : ∃ C, C = cfC c := ⟨_, rfl⟩
 rw [← hC] at HWX ⊢
 clear hb hC
 have c20 := HBX.out.c20
 have c21 := HBX.out.c21
 have c22 := HBX.out.c22
 have c23 := HBX.out.c23
 have c24 := HBX.out.c24
 obtain ⟨b1, hb1⟩ : ∃ b, (st == 1) = b := ⟨_, rfl⟩
 obtain ⟨b2, hb2⟩ : ∃ b, (st == 2) = b := ⟨_, rfl⟩
 obtain ⟨b3, hb3⟩ : ∃ b, (st == 3) = b := ⟨_, rfl⟩
 obtain ⟨b4, hb4⟩ : ∃ b, (st == 7) = b := ⟨_, rfl⟩
 obtain ⟨b5, hb5⟩ : ∃ b, (pr == 17) = b := ⟨_, rfl⟩
 have HT : Hid (tkN c pr st = if b1 || b2 then c.sy else if b3 then c.tc else if b4 then (if b5 then c.ud else c.ic) else c.fi) := by show _ = _; unfold tkN; rw [hb1, hb2, hb3, hb4, hb5]
 go_enter Tryz.func51, Tryz.ntmps51
 go_upto_region 1 with fail
 rw [HOX.out, HWX.out]
 cases b1 with
 | true => go_wp2_with fail; go_ret; exact ⟨by rw [HT.out]; rfl, HLX.out⟩
 | false =>
  cases b2 with
  | true => go_wp2_with fail; go_ret; exact ⟨by rw [HT.out]; rfl, HLX.out⟩
  | false =>
   cases b3 with
   | true => go_wp2_with fail; go_ret; exact ⟨by rw [HT.out]; rfl, HLX.out⟩
   | false =>
    cases b4 with
    | false => go_wp2_with fail; go_ret; exact ⟨by rw [HT.out]; rfl, HLX.out⟩
    | true =>
     cases b5 with
     | true => go_wp2_with fail; go_ret; exact ⟨by rw [HT.out]; rfl, HLX.out⟩
     | false => go_wp2_with fail; go_ret; exact ⟨by rw [HT.out]; rfl, HLX.out⟩
def ouT (c : CF) (f : FN) : TU := if f.x.sV == 4 then { f.x with sV := c.oV, s := c.o, sp := f.po } else f.x
set_option maxHeartbeats 1600000 in
set_option maxRecDepth 100000 in
theorem outward_any (t M N : Nat) (c : CF) (P : Nat) (f : FN) (w : World) (ht : TblAt w t c M N) (hf : FloAt w P f) : Calls Tryz.prog 30 #[.pointer (some ⟨t, 0, none⟩), .pointer (some ⟨P, 0, none⟩)] w fun r w' => r = .returned (.agg (tuC (ouT c f))) ∧ Below w.heap.size w w' := by
 have HC : Hid (TblAt w t c M N ∧ FloAt w P f) := ⟨ht, hf⟩
 clear ht hf
 obtain ⟨W, O, -, HOX, HLX, HEX, hb⟩ := zBx w (tuC xz) 38
 have HNX : Hid (TupAt W O xz) := hb
 clear hb
 obtain ⟨Y, O2, -, HOY, HLY, HEY, hb⟩ := zBx W (tuC xz) 38
 have HNY : Hid (TupAt Y O2 xz) := hb
 clear hb
 have HY : Hid (TblAt Y t c M N ∧ FloAt Y P f ∧ TupAt Y O xz ∧ TupAt Y O2 xz ∧ Below w.heap.size w Y ∧ O < O2 ∧ w.heap.size = O ∧ t < O ∧ P < O) := by
  have h1 := HLX.out
  have h2 := HLY.out
  have h3 := HOX.out
  have h4 := HOY.out
  have h5 := HNX.out.lt
  have h6 := TblAt.lt HC.out.1
  have h7 := HC.out.2.lt
  exact ⟨TblAt.below (TblAt.below HC.out.1 h1) h2, (HC.out.2.below h1).below h2, HNX.out.below h2, HNY.out, bthen h1 h2, by omega, h3, by omega, by omega⟩
 have HFW : Hid (FloAt W P f) := HC.out.2.below HLX.out
 go_enter Tryz.func30, Tryz.ntmps30
 go_wp2_with (first | (refine wpList_alloc_tup rfl rfl ?_; first | rw [HEX.out, HOX.out] | rw [HEY.out, HOY.out]) | (refine wpList_mid_tup (.tmp 8) rfl P 0 f.x rfl HFW.out.tup rfl ?_) | (refine wpList_store_tup (.tmp 5) (.tmp 9) rfl rfl O2 xz f.x rfl rfl HY.out.2.2.2.1 rfl ?_))
 intro w2 h2 k2
 have H2 : Hid (TblAt w2 t c M N ∧ FloAt w2 P f ∧ TupAt w2 O xz ∧ TupAt w2 O2 f.x ∧ Below w.heap.size w w2) := by
  obtain ⟨y1, y2, y3, y4, y5, y6, y7, y8, y9⟩ := HY.out
  exact ⟨TblAt.ch y1 k2 (fun q => by have q' : t = O2 := q; omega), y2.ch k2 (fun q => by have q' : P = O2 := q; omega), y3.ch k2 (fun q => by have q' : O = O2 := q; omega), h2, y5.trans (k2.below (fun q hq => by have hq' : q = O2 := hq; omega) y5.size)⟩
 have c1 := h2.c1
 clear h2 k2
 obtain ⟨b4, hb4⟩ : ∃ b, (f.x.sV == 4) = b := ⟨_, rfl⟩
 have HOU : Hid (ouT c f = if b4 then { f.x with sV := c.oV, s := c.o, sp := f.po } else f.x) := by show _ = _; unfold ouT; rw [hb4]
 cases b4 with
 | false =>
  go_wp2_with (first | (refine wpList_load_tup (.tmp 5) rfl O2 f.x rfl H2.out.2.2.2.1 rfl ?_) | (refine wpList_store_tup (.tmp 4) (.tmp 25) rfl rfl O xz f.x rfl rfl H2.out.2.2.1 rfl ?_))
  intro w5 h5 k5
  go_wp2_with fail
  refine bodyPost_ret (results_tup rfl _ _ O _ rfl h5) rfl ?_
  have b5 := H2.out.2.2.2.2
  exact ⟨by rw [HOU.out]; rfl, b5.trans (k5.below (fun q hq => by have h1 := HY.out.2.2.2.2.2.2.1; have hq' : q = O := hq; omega) b5.size)⟩
 | true =>
  go_upto_region 3 with fail
  clear c1 hb4
  refine MixH.start (fun A => TblAt A t c M N ∧ FloAt A P f) (by kernel_rfl) ?_
  obtain ⟨wA, hwA⟩ : ∃ wA, wA = w2.drew := ⟨_, rfl⟩
  have bdr := zDr hwA
  have hS : TblAt wA t c M N ∧ FloAt wA P f := ⟨TblAt.below H2.out.1 bdr, H2.out.2.1.below bdr⟩
  have HA : Hid (TupAt wA O xz ∧ TupAt wA O2 f.x ∧ Below w.heap.size w wA) := ⟨H2.out.2.2.1.below bdr, H2.out.2.2.2.1.below bdr, bthen H2.out.2.2.2.2 bdr⟩
  rw [← hwA]
  clear hwA bdr
  refine MixH.tks [true, true, true, true, false, true, true, true] 6 hS (fun K hK => ?_)
  simp only [Mix.pick]
  repeat (go_big_quiet_step (fail))
  refine wpQuiet_nil (hK _ ?_)
  clear hK K
  refine MixH.tk 5 4 rfl (.agg (ipCells c.oV c.o)) (yields_ipr (.tmp 17) rfl t 1 c.oV c.o rfl rfl (fun A hA => TblAt.out hA.1)) hS (fun a' ha => ?_)
  simp only [zP1, zP2, zP3, zP4] at ha
  subst ha
  refine MixH.tks [false, false, false, false, false, false, false, false, false, true] 4 hS (fun K hK => ?_)
  simp only [Mix.pick]
  repeat (go_big_quiet_step (fail))
  refine wpQuiet_nil (hK _ ?_)
  clear hK K
  refine MixH.tk 3 8 rfl (.int .i64 f.po) (yields_int (.tmp 21) rfl ⟨P, 37, none⟩ (.int .i64 f.po) rfl rfl (fun A hA => hA.2.c37)) hS (fun a' ha => ?_)
  simp only [zP1, zP2, zP3, zP4] at ha
  subst ha
  refine MixH.one [false, false, false, false, false, false, false, false, false, false, true] 2 10 _ rfl rfl (by kernel_rfl) (by kernel_rfl) (fun K hK => ?_)
  simp only [Mix.pick]
  refine wpList_set_src (.tmp 23) (.tmp 18) rfl rfl O2 f.x c.oV c.o rfl rfl HA.out.2.1 rfl ?_
  intro w3 h3 k3
  have H3 : Hid (TupAt w3 O xz ∧ TupAt w3 O2 { f.x with sV := c.oV, s := c.o } ∧ Below w.heap.size w w3) := by
   obtain ⟨y1, y2, y3, y4, y5, y6, y7, y8, y9⟩ := HY.out
   obtain ⟨a1, a2, a3⟩ := HA.out
   exact ⟨a1.ch k3 (fun q => by have q' : O = O2 := q; omega), h3, a3.trans (k3.below (fun q hq => by have hq' : q = O2 := hq; omega) a3.size)⟩
  have hS3 : TblAt w3 t c M N ∧ FloAt w3 P f := by
   obtain ⟨y1, y2, y3, y4, y5, y6, y7, y8, y9⟩ := HY.out
   exact ⟨TblAt.ch hS.1 k3 (fun q => by have q' : t = O2 := q; omega), hS.2.ch k3 (fun q => by have q' : P = O2 := q; omega)⟩
  clear h3 k3
  clear hS
  have hS := hS3
  clear hS3
  have c35 := H3.out.2.1.c35
  have f35 := H3.out.2.1.fz 35
  simp only at c35
  go_wp2_with fail
  refine ⟨rfl, hK _ _ hS ?_⟩
  clear hK K
  refine MixH.tks [false, false, false, false, false, false, false, false, false, false, false, true] 1 hS (fun K hK => ?_)
  simp only [Mix.pick]
  repeat (go_big_quiet_step (fail))
  refine wpQuiet_nil (hK _ ?_)
  clear hK K
  refine MixH.one [false, false, false, false, false, false, false, false, false, false, false, false, true] 0 12 _ rfl rfl (by kernel_rfl) (by kernel_rfl) (fun K hK => ?_)
  simp only [Mix.pick]
  go_wp2_with fail
  have hS4 : TblAt (w3.setCell ⟨O2, 35, none⟩ (.int .i64 f.po)) t c M N ∧ FloAt (w3.setCell ⟨O2, 35, none⟩ (.int .i64 f.po)) P f := by
   obtain ⟨y1, y2, y3, y4, y5, y6, y7, y8, y9⟩ := HY.out
   have k4 := (Ch.refl (fun q => q = O2) w3).set ⟨O2, 35, none⟩ (.int .i64 f.po) rfl
   exact ⟨TblAt.ch hS.1 k4 (fun q => by have q' : t = O2 := q; omega), hS.2.ch k4 (fun q => by have q' : P = O2 := q; omega)⟩
  clear hS
  have hS := hS4
  clear hS4
  refine ⟨rfl, hK _ _ hS ?_⟩
  clear hK K
  refine MixH.done (by kernel_rfl) ?_
  obtain ⟨w4, hw4⟩ : ∃ w4, w4 = w3.setCell ⟨O2, 35, none⟩ (.int .i64 f.po) := ⟨_, rfl⟩
  rw [← hw4]
  have H4 : Hid (TupAt w4 O xz ∧ TupAt w4 O2 { f.x with sV := c.oV, s := c.o, sp := f.po } ∧ Below w.heap.size w w4) := by
   obtain ⟨y1, y2, y3, y4, y5, y6, y7, y8, y9⟩ := HY.out
   obtain ⟨a1, a2, a3⟩ := H3.out
   have k4 := (Ch.refl (fun q => q = O2) w3).set ⟨O2, 35, none⟩ (.int .i64 f.po) rfl
   rw [hw4]
   exact ⟨a1.ch k4 (fun q => by have q' : O = O2 := q; omega), TupAt.set a2 35 (.int .i64 f.po) (set_sp _ _), a3.trans (k4.below (fun q hq => by have hq' : q = O2 := hq; omega) a3.size)⟩
  clear hw4 hS c35 f35
  go_wp2_with (first | (refine wpList_load_tup (.tmp 5) rfl O2 _ rfl H4.out.2.1 rfl ?_) | (refine wpList_store_tup (.tmp 4) (.tmp 25) rfl rfl O xz _ rfl rfl H4.out.1 rfl ?_))
  intro w5 h5 k5
  go_wp2_with fail
  refine bodyPost_ret (results_tup rfl _ _ O _ rfl h5) rfl ?_
  have b5 := H4.out.2.2
  exact ⟨by rw [HOU.out]; rfl, b5.trans (k5.below (fun q hq => by have h1 := HY.out.2.2.2.2.2.2.1; have hq' : q = O := hq; omega) b5.size)⟩
end Go.Proofs.YtclpeepnngegaaaGreatDoor
