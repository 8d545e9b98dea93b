/-
  Law3j Law3k Law3l Law3m Law3n Law3o, one behind the other.
-/
import Derived.Test.YthknkfggpdhdbaaK3g
namespace Go.Proofs.Ythknkfggpdhdbaa
open Go.RowKit

set_option maxRecDepth 100000 in
set_option maxHeartbeats 6400000 in
theorem answered_poll0 (B : Nat) (w : World) (v : SV) (ok : SideOk B w v) (hnow : v.r.now + 8192 ≤ 4611686018427387904) (two : Bool) (i n : Int) (oa : Option Addr) (fl oc : Nat) (hf : v.s.filled = 0) :
    Calls Try.prog 56 #[.agg v.cells, .agg (opC 3 two i n oa fl oc)] w fun e w' => ∃ v', e = .returned (.tuple #[.agg v'.cells, .bool true]) ∧ Stepped B w w' v v' ∧ v'.W.length = v.W.length + 0 := by
  obtain ⟨C, hC⟩ : ∃ C, C = opC 3 two i n oa fl oc := ⟨_, rfl⟩
  rw [← hC]
  obtain ⟨W, hW⟩ : ∃ W, W = ((w.alloc (.cells v.cells 29)).alloc (.cells C 68)).alloc (.cells zS 29) := ⟨_, rfl⟩
  obtain ⟨O, hO⟩ : ∃ O, O = w.heap.size := ⟨_, rfl⟩
  have hbx : Bxs W O v C := by rw [hW, hO]; exact bxs_new w v C
  have hsz : W.heap.size = O + 3 := by rw [hW, hO]; exact bxs_size w v C
  have hL : Loc B (O + 3) w W v v := by rw [← hsz, hW]; exact Loc.start ok (bxs_below w v C)
  have HW : Hid (((w.alloc (.cells v.cells 29)).alloc (.cells C 68)).alloc (.cells #[.pointer none, .int .i64 0, .int .i64 0, .int .i64 0, .slice none 0 0, .int .i64 0, .slice none 0 0] 29) = W) := hW.symm
  have HO : Hid (w.heap.size = O) := hO.symm
  have HSZ : Hid (W.heap.size = O + 3) := hsz
  have HL : Hid _ := hL
  have HB : Hid _ := hbx
  have c0 := hbx.box.c0
  have ck : W.cell? ⟨O + 1, 0, none⟩ = some (.int .i64 3) := by rw [hC] at hbx; exact hbx.ckd
  have ci : W.cell? ⟨O + 1, 2, none⟩ = some (.int .i64 i) := by rw [hC] at hbx; exact hbx.ci
  have cn : W.cell? ⟨O + 1, 3, none⟩ = some (.int .i64 n) := by rw [hC] at hbx; exact hbx.cn
  have HC : Hid (C = opC 3 two i n oa fl oc) := hC
  have Q1 : Hid _ := poll_none hL.ok hf
  clear hW hO hsz hL hC hbx
  go_enter Try.func56, Try.ntmps56
  go_upto_region 1 with fail
  rw [HW.out, HO.out]
  go_wp2_with fail
  refine Calls.mono Q1.out ?_
  rintro e w1 ⟨rfl, hp⟩
  have hbx1 := HL.out.boxes HO.out HB.out hp.pl
  have hbox1 := hbx1.box
  have ci1 : w1.cell? ⟨O + 1, 2, none⟩ = some (.int .i64 i) := by have h := hbx1; rw [HC.out] at h; exact h.ci
  have HP : Hid _ := hp
  have HB1 : Hid _ := hbx1
  have Q2 : Hid _ := pollR_none HL.out.ok hf hp hnow
  clear Q1 hp hbx1 c0 ck cn ci
  go_wp2_with (first | (refine wpList_load_sr (.tmp 34) rfl O v rfl hbox1 rfl ?_))
  refine Calls.mono Q2.out ?_
  rintro e w2 ⟨r2, rfl, nx⟩
  have HL2 : Hid _ := HL.out.go (by rw [HSZ.out]; omega) HP.out nx
  have HB2 : Hid _ := HB1.out.below nx.bel
  have HN2 : Hid _ := nx.now
  clear Q2 hbox1 ci1 nx ok
  have hz := pz w2
  go_wp2_with (first | (refine wpList_store_rp (.tmp 9) (.tmp 37) rfl rfl w2.heap.size rz r2 rfl rfl hz rfl ?_))
  intro w3 hR3 k3
  have L3 := HL2.out.put _ rfl k3
  have h0a : Below w2.heap.size w2 (w2.alloc (.cells #[.int .i64 0, .int .i64 0, .int .i64 0, .slice none 0 0, .int .i64 0] 26)) := (Below.refl _ _).alloc (Nat.le_refl _) _
  have hlt2 := HB2.out.lt
  have hbx3 := (HB2.out.below h0a).ch k3 (show ¬ O = w2.heap.size by omega) (show ¬ O + 1 = w2.heap.size by omega) (show ¬ O + 2 = w2.heap.size by omega)
  have hbox3 := hbx3.box
  have HL3 : Hid _ := L3
  have HB3 : Hid _ := hbx3
  have K23 : Hid (Ch (fun q => q = O ∨ w2.heap.size ≤ q) w2 w3) := (Ch.ofBelow (S := fun q => q = O ∨ w2.heap.size ≤ q) h0a).trans k3 (fun q _ e => .inr (by have e' : q = w2.heap.size := e; omega))
  clear L3 h0a hlt2 hbx3 k3 hz
  go_wp2_with (first | (refine wpList_load_rp (.tmp 9) rfl w2.heap.size r2 rfl hR3 rfl ?_) | (refine wpList_store_sr (.tmp 42) (.tmp 41) rfl rfl O v r2 rfl rfl hbox3 rfl ?_))
  intro w4 hbox4 k4
  have L4 := HL3.out.set (X := O) (by have := HO.out; omega) (by omega) k4
  have hop4 := (k4.block (O + 1) (Array.getElem?_eq_some_iff.1 HB3.out.op).1 (show ¬ O + 1 = O by omega)).trans HB3.out.op
  have hres4 := (k4.block (O + 2) (Array.getElem?_eq_some_iff.1 HB3.out.res).1 (show ¬ O + 2 = O by omega)).trans HB3.out.res
  have HL4 : Hid _ := L4
  have K24 : Hid (Ch (fun q => q = O ∨ w2.heap.size ≤ q) w2 w4) := K23.out.trans k4 (fun q _ e => .inl e)
  have HOP4 : Hid _ := hop4
  clear L4 hop4 k4 hbox3 hR3 K23
  obtain ⟨V, hV⟩ : ∃ V : SV, V = { v with r := r2 } := ⟨_, rfl⟩
  rw [← hV] at hbox4
  have HV : Hid (V = { v with r := r2 }) := hV
  clear hV
  go_wp2_with (first | (refine wpList_load_sd (.tmp 2) rfl O V rfl hbox4 rfl ?_) | (refine wpList_store_sd (.tmp 4) (.tmp 49) rfl rfl (O + 2) zS rfl V rfl rfl hres4 rfl ?_))
  intro w5 hR5 k5
  have L5 := HL4.out.set (X := O + 2) (by have := HO.out; omega) (by omega) k5
  have HR5 : Hid _ := hR5
  have HL5 : Hid _ := L5
  clear L5 k5 hR5 hbox4 hres4
  go_wp2
  (try simp only [Exit.inBlock, Exit.then])
  refine bodyPost_ret (results_sd_tmp rfl _ _ (O + 2) V rfl HR5.out) rfl ?_
  exact ⟨_, by rw [HV.out]; rfl, HL5.out.fin HN2.out (Nat.le_succ _), rfl⟩
set_option maxRecDepth 100000 in
set_option maxHeartbeats 6400000 in
theorem answered_take0 (B : Nat) (w : World) (v : SV) (ok : SideOk B w v) (hnow : v.r.now + 8192 ≤ 4611686018427387904) (two : Bool) (i n : Int) (oa : Option Addr) (fl oc : Nat) (hf : v.s.fr = []) :
    Calls Try.prog 56 #[.agg v.cells, .agg (opC 4 two i n oa fl oc)] w fun e w' => ∃ v', e = .returned (.tuple #[.agg v'.cells, .bool true]) ∧ Stepped B w w' v v' ∧ v'.W.length = v.W.length + 0 := by
  obtain ⟨C, hC⟩ : ∃ C, C = opC 4 two i n oa fl oc := ⟨_, rfl⟩
  rw [← hC]
  obtain ⟨W, hW⟩ : ∃ W, W = ((w.alloc (.cells v.cells 29)).alloc (.cells C 68)).alloc (.cells zS 29) := ⟨_, rfl⟩
  obtain ⟨O, hO⟩ : ∃ O, O = w.heap.size := ⟨_, rfl⟩
  have hbx : Bxs W O v C := by rw [hW, hO]; exact bxs_new w v C
  have hsz : W.heap.size = O + 3 := by rw [hW, hO]; exact bxs_size w v C
  have hL : Loc B (O + 3) w W v v := by rw [← hsz, hW]; exact Loc.start ok (bxs_below w v C)
  have HW : Hid (((w.alloc (.cells v.cells 29)).alloc (.cells C 68)).alloc (.cells #[.pointer none, .int .i64 0, .int .i64 0, .int .i64 0, .slice none 0 0, .int .i64 0, .slice none 0 0] 29) = W) := hW.symm
  have HO : Hid (w.heap.size = O) := hO.symm
  have HSZ : Hid (W.heap.size = O + 3) := hsz
  have HL : Hid _ := hL
  have HB : Hid _ := hbx
  have c0 := hbx.box.c0
  have ck : W.cell? ⟨O + 1, 0, none⟩ = some (.int .i64 4) := by rw [hC] at hbx; exact hbx.ckd
  have ci : W.cell? ⟨O + 1, 2, none⟩ = some (.int .i64 i) := by rw [hC] at hbx; exact hbx.ci
  have cn : W.cell? ⟨O + 1, 3, none⟩ = some (.int .i64 n) := by rw [hC] at hbx; exact hbx.cn
  have HC : Hid (C = opC 4 two i n oa fl oc) := hC
  have Q1 : Hid _ := take_none hL.ok hf
  clear hW hO hsz hL hC hbx
  go_enter Try.func56, Try.ntmps56
  go_upto_region 1 with fail
  rw [HW.out, HO.out]
  go_wp2_with fail
  refine Calls.mono Q1.out ?_
  rintro e w1 ⟨rfl, hp⟩
  have hbx1 := HL.out.boxes HO.out HB.out hp.pl
  have hbox1 := hbx1.box
  have ci1 : w1.cell? ⟨O + 1, 2, none⟩ = some (.int .i64 i) := by have h := hbx1; rw [HC.out] at h; exact h.ci
  have HP : Hid _ := hp
  have HB1 : Hid _ := hbx1
  have Q2 : Hid _ := takeR_none HL.out.ok hf hp hnow
  clear Q1 hp hbx1 c0 ck cn ci
  go_wp2_with (first | (refine wpList_load_sr (.tmp 90) rfl O v rfl hbox1 rfl ?_))
  refine Calls.mono Q2.out ?_
  rintro e w2 ⟨r2, rfl, nx⟩
  have HL2 : Hid _ := HL.out.go (by rw [HSZ.out]; omega) HP.out nx
  have HB2 : Hid _ := HB1.out.below nx.bel
  have HN2 : Hid _ := nx.now
  clear Q2 hbox1 ci1 nx ok
  have hz := pz w2
  go_wp2_with (first | (refine wpList_store_rp (.tmp 16) (.tmp 93) rfl rfl w2.heap.size rz r2 rfl rfl hz rfl ?_))
  intro w3 hR3 k3
  have L3 := HL2.out.put _ rfl k3
  have h0a : Below w2.heap.size w2 (w2.alloc (.cells #[.int .i64 0, .int .i64 0, .int .i64 0, .slice none 0 0, .int .i64 0] 26)) := (Below.refl _ _).alloc (Nat.le_refl _) _
  have hlt2 := HB2.out.lt
  have hbx3 := (HB2.out.below h0a).ch k3 (show ¬ O = w2.heap.size by omega) (show ¬ O + 1 = w2.heap.size by omega) (show ¬ O + 2 = w2.heap.size by omega)
  have hbox3 := hbx3.box
  have HL3 : Hid _ := L3
  have HB3 : Hid _ := hbx3
  have K23 : Hid (Ch (fun q => q = O ∨ w2.heap.size ≤ q) w2 w3) := (Ch.ofBelow (S := fun q => q = O ∨ w2.heap.size ≤ q) h0a).trans k3 (fun q _ e => .inr (by have e' : q = w2.heap.size := e; omega))
  clear L3 h0a hlt2 hbx3 k3 hz
  go_wp2_with (first | (refine wpList_load_rp (.tmp 16) rfl w2.heap.size r2 rfl hR3 rfl ?_) | (refine wpList_store_sr (.tmp 97) (.tmp 96) rfl rfl O v r2 rfl rfl hbox3 rfl ?_))
  intro w4 hbox4 k4
  have L4 := HL3.out.set (X := O) (by have := HO.out; omega) (by omega) k4
  have hop4 := (k4.block (O + 1) (Array.getElem?_eq_some_iff.1 HB3.out.op).1 (show ¬ O + 1 = O by omega)).trans HB3.out.op
  have hres4 := (k4.block (O + 2) (Array.getElem?_eq_some_iff.1 HB3.out.res).1 (show ¬ O + 2 = O by omega)).trans HB3.out.res
  have HL4 : Hid _ := L4
  have K24 : Hid (Ch (fun q => q = O ∨ w2.heap.size ≤ q) w2 w4) := K23.out.trans k4 (fun q _ e => .inl e)
  have HOP4 : Hid _ := hop4
  clear L4 hop4 k4 hbox3 hR3 K23
  obtain ⟨V, hV⟩ : ∃ V : SV, V = { v with r := r2 } := ⟨_, rfl⟩
  rw [← hV] at hbox4
  have HV : Hid (V = { v with r := r2 }) := hV
  clear hV
  have QN : Hid _ := num_any 33 w4
  go_wp2_with fail
  refine Calls.mono QN.out ?_
  rintro e wN ⟨rfl, rfl⟩
  clear QN
  go_wp2
  refine MixH.start (fun x => SdAt x O V) (by kernel_rfl) ?_
  obtain ⟨wA, hwA⟩ : ∃ wA, wA = w4.drew := ⟨_, rfl⟩
  have hS : SdAt wA O V := by rw [hwA]; exact hbox4
  have hresA : wA.heap[O + 2]? = some (.cells zS 29 (0, 0)) := by rw [hwA]; exact hres4
  have HLA : Hid _ := HL4.out.below (Below.refl w4.heap.size w4).drew
  rw [← hwA] at HLA ⊢
  clear hwA hbox4 hres4
  refine MixH.takes [false, true, false, true] 14 (by kernel_rfl) (by kernel_rfl) (by decide) (by kernel_rfl) hS (fun K hK => ?_)
  simp only [Mix.pick]
  repeat (go_big_quiet_step (fail))
  refine wpQuiet_nil (hK _ ?_)
  clear hK K
  refine MixH.take 13 0 _ (.agg V.cells) rfl (by kernel_rfl) (by kernel_rfl) (by kernel_rfl) (by kernel_rfl) (yields_sd (.tmp 2) rfl O V rfl rfl (fun _ h => h)) hS (fun a' ha => ?_)
  simp only [Act.put, List.setIfInBounds_toArray, List.set_cons_succ, List.set_cons_zero] at ha
  subst ha
  refine MixH.one [false, false, true] 12 2 _ rfl rfl (by kernel_rfl) (by kernel_rfl) (fun K hK => ?_)
  simp only [Mix.pick]
  have QN : Hid _ := num_any 33 wA
  go_wp2_with fail
  refine Calls.mono QN.out ?_
  rintro e wN ⟨rfl, rfl⟩
  clear QN
  go_wp2
  refine ⟨rfl, hK _ _ hS ?_⟩
  clear hK K
  refine MixH.takes [false, false, false, false, true, true] 10 (by kernel_rfl) (by kernel_rfl) (by decide) (by kernel_rfl) hS (fun K hK => ?_)
  simp only [Mix.pick]
  repeat (go_big_quiet_step (fail))
  refine wpQuiet_nil (hK _ ?_)
  clear hK K
  refine MixH.takes [false, false, false, false, false, false, true, true, true, true] 6 (by kernel_rfl) (by kernel_rfl) (by decide) (by kernel_rfl) hS (fun K hK => ?_)
  simp only [Mix.pick]
  repeat (go_big_quiet_step (fail))
  refine wpQuiet_nil (hK _ ?_)
  clear hK K
  refine MixH.takes [false, false, false, false, false, false, false, false, false, false, true, true, true, true] 2 (by kernel_rfl) (by kernel_rfl) (by decide) (by kernel_rfl) hS (fun K hK => ?_)
  simp only [Mix.pick]
  repeat (go_big_quiet_step (fail))
  refine wpQuiet_nil (hK _ ?_)
  clear hK K
  refine MixH.one [false, false, false, false, false, false, false, false, false, false, false, false, false, false, true] 1 14 _ rfl rfl (by kernel_rfl) (by kernel_rfl) (fun K hK => ?_)
  simp only [Mix.pick]
  refine wpList_store_sd (.tmp 4) (.tmp 105) rfl rfl (O + 2) zS rfl V rfl rfl hresA rfl ?_
  intro w5 hR5 k5
  have L5 := HLA.out.set (X := O + 2) (by have := HO.out; omega) (by omega) k5
  have HR5 : Hid _ := hR5
  have HL5 : Hid _ := L5
  replace hS := SdAt.ch hS k5 (show ¬ O = O + 2 by omega)
  clear L5 k5 hR5 hresA
  go_wp2
  refine ⟨rfl, hK _ _ hS ?_⟩
  clear hK K
  refine MixH.takes [false, false, false, false, false, false, false, false, false, false, false, false, false, false, false, true] 0 (by kernel_rfl) (by kernel_rfl) (by decide) (by kernel_rfl) hS (fun K hK => ?_)
  simp only [Mix.pick]
  repeat (go_big_quiet_step (fail))
  refine wpQuiet_nil (hK _ ?_)
  clear hK K
  refine MixH.done (by kernel_rfl) ?_
  go_wp2
  (try simp only [Exit.inBlock, Exit.then])
  refine bodyPost_ret (results_sd_tmp rfl _ _ (O + 2) V rfl HR5.out) rfl ?_
  exact ⟨_, by rw [HV.out]; rfl, HL5.out.fin HN2.out (Nat.le_succ _), rfl⟩
set_option maxRecDepth 100000 in
set_option maxHeartbeats 6400000 in
theorem answered_buf0 (B : Nat) (w : World) (v : SV) (ok : SideOk B w v) (two : Bool) (i n : Int) (oa : Option Addr) (fl oc : Nat) (he : hE v.s i ≠ 0) :
    Calls Try.prog 56 #[.agg v.cells, .agg (opC 5 two i n oa fl oc)] w fun e w' => ∃ v', e = .returned (.tuple #[.agg v'.cells, .bool true]) ∧ Stepped B w w' v v' ∧ v'.W.length = v.W.length + 0 := by
  obtain ⟨C, hC⟩ : ∃ C, C = opC 5 two i n oa fl oc := ⟨_, rfl⟩
  rw [← hC]
  obtain ⟨W, hW⟩ : ∃ W, W = ((w.alloc (.cells v.cells 29)).alloc (.cells C 68)).alloc (.cells zS 29) := ⟨_, rfl⟩
  obtain ⟨O, hO⟩ : ∃ O, O = w.heap.size := ⟨_, rfl⟩
  have hbx : Bxs W O v C := by rw [hW, hO]; exact bxs_new w v C
  have hsz : W.heap.size = O + 3 := by rw [hW, hO]; exact bxs_size w v C
  have hL : Loc B (O + 3) w W v v := by rw [← hsz, hW]; exact Loc.start ok (bxs_below w v C)
  have HW : Hid (((w.alloc (.cells v.cells 29)).alloc (.cells C 68)).alloc (.cells #[.pointer none, .int .i64 0, .int .i64 0, .int .i64 0, .slice none 0 0, .int .i64 0, .slice none 0 0] 29) = W) := hW.symm
  have HO : Hid (w.heap.size = O) := hO.symm
  have HSZ : Hid (W.heap.size = O + 3) := hsz
  have HL : Hid _ := hL
  have HB : Hid _ := hbx
  have c0 := hbx.box.c0
  have ck : W.cell? ⟨O + 1, 0, none⟩ = some (.int .i64 5) := by rw [hC] at hbx; exact hbx.ckd
  have ci : W.cell? ⟨O + 1, 2, none⟩ = some (.int .i64 i) := by rw [hC] at hbx; exact hbx.ci
  have cn : W.cell? ⟨O + 1, 3, none⟩ = some (.int .i64 n) := by rw [hC] at hbx; exact hbx.cn
  have HC : Hid (C = opC 5 two i n oa fl oc) := hC
  have Q1 : Hid _ := buffer_none hL.ok i he
  clear hW hO hsz hL hC hbx
  go_enter Try.func56, Try.ntmps56
  go_upto_region 1 with fail
  rw [HW.out, HO.out]
  go_wp2_with fail
  refine Calls.mono Q1.out ?_
  rintro e w1 ⟨rfl, hp⟩
  have heb : (hE v.s i != 0) = true := by simpa using he
  have heb2 : (hE v.s i == hE v.s i) = true := by simp
  have heb3 : (hE v.s i != hE v.s i) = false := by simp
  have hbx1 := HL.out.boxes HO.out HB.out hp.pl
  have hbox1 := hbx1.box
  have ci1 : w1.cell? ⟨O + 1, 2, none⟩ = some (.int .i64 i) := by have h := hbx1; rw [HC.out] at h; exact h.ci
  have HP : Hid _ := hp
  have HB1 : Hid _ := hbx1
  have Q2 : Hid _ := bufferR_u HL.out.ok i hp HL.out.ok.twin
  clear Q1 hp hbx1 c0 ck cn ci
  go_wp2_with (first | (refine wpList_load_sr (.tmp 147) rfl O v rfl hbox1 rfl ?_))
  refine Calls.mono Q2.out ?_
  rintro e w2 ⟨rfl, nx⟩
  have HL2 : Hid _ := HL.out.go (by rw [HSZ.out]; omega) HP.out nx
  have HB2 : Hid _ := HB1.out.below nx.bel
  have HN2 : Hid _ := nx.now
  clear Q2 hbox1 ci1 nx ok
  have HL4 : Hid _ := HL2.out
  have hbox4 : SdAt w2 O v := HB2.out.box
  have hres4 := HB2.out.res
  obtain ⟨V, hV⟩ : ∃ V : SV, V = v := ⟨_, rfl⟩
  rw [← hV] at hbox4
  have HV : Hid (V = v) := hV
  obtain ⟨E, hE'⟩ : ∃ E, E = hE v.s i := ⟨_, rfl⟩
  rw [← hE'] at heb heb2 heb3 ⊢
  have HE : Hid (E = hE v.s i) := hE'
  clear hV he hE'
  have QN : Hid _ := num_any E w2
  go_wp2_with fail
  refine Calls.mono QN.out ?_
  rintro e wN ⟨rfl, rfl⟩
  clear QN
  go_wp2
  refine MixH.start (fun x => SdAt x O V) (by kernel_rfl) ?_
  obtain ⟨wA, hwA⟩ : ∃ wA, wA = w2.drew := ⟨_, rfl⟩
  have hS : SdAt wA O V := by rw [hwA]; exact hbox4
  have hresA : wA.heap[O + 2]? = some (.cells zS 29 (0, 0)) := by rw [hwA]; exact hres4
  have HLA : Hid _ := HL4.out.below (Below.refl w2.heap.size w2).drew
  rw [← hwA] at HLA ⊢
  clear hwA hbox4 hres4
  refine MixH.takes [false, true, false, true] 10 (by kernel_rfl) (by kernel_rfl) (by decide) (by kernel_rfl) hS (fun K hK => ?_)
  simp only [Mix.pick]
  repeat (go_big_quiet_step (fail))
  refine wpQuiet_nil (hK _ ?_)
  clear hK K
  refine MixH.take 9 0 _ (.agg V.cells) rfl (by kernel_rfl) (by kernel_rfl) (by kernel_rfl) (by kernel_rfl) (yields_sd (.tmp 2) rfl O V rfl rfl (fun _ h => h)) hS (fun a' ha => ?_)
  simp only [Act.put, List.setIfInBounds_toArray, List.set_cons_succ, List.set_cons_zero] at ha
  subst ha
  refine MixH.one [false, false, true] 8 2 _ rfl rfl (by kernel_rfl) (by kernel_rfl) (fun K hK => ?_)
  simp only [Mix.pick]
  have QN : Hid _ := num_any E wA
  go_wp2_with fail
  refine Calls.mono QN.out ?_
  rintro e wN ⟨rfl, rfl⟩
  clear QN
  go_wp2
  refine ⟨rfl, hK _ _ hS ?_⟩
  clear hK K
  refine MixH.takes [false, false, false, false, true, true] 6 (by kernel_rfl) (by kernel_rfl) (by decide) (by kernel_rfl) hS (fun K hK => ?_)
  simp only [Mix.pick]
  repeat (go_big_quiet_step (fail))
  refine wpQuiet_nil (hK _ ?_)
  clear hK K
  refine MixH.takes [false, false, false, false, false, false, true, true, true, true] 2 (by kernel_rfl) (by kernel_rfl) (by decide) (by kernel_rfl) hS (fun K hK => ?_)
  simp only [Mix.pick]
  repeat (go_big_quiet_step (fail))
  refine wpQuiet_nil (hK _ ?_)
  clear hK K
  refine MixH.one [false, false, false, false, false, false, false, false, false, false, true] 1 10 _ rfl rfl (by kernel_rfl) (by kernel_rfl) (fun K hK => ?_)
  simp only [Mix.pick]
  refine wpList_store_sd (.tmp 4) (.tmp 160) rfl rfl (O + 2) zS rfl V rfl rfl hresA rfl ?_
  intro w5 hR5 k5
  have L5 := HLA.out.set (X := O + 2) (by have := HO.out; omega) (by omega) k5
  have HR5 : Hid _ := hR5
  have HL5 : Hid _ := L5
  replace hS := SdAt.ch hS k5 (show ¬ O = O + 2 by omega)
  clear L5 k5 hR5 hresA
  go_wp2
  refine ⟨rfl, hK _ _ hS ?_⟩
  clear hK K
  refine MixH.takes [false, false, false, false, false, false, false, false, false, false, false, true] 0 (by kernel_rfl) (by kernel_rfl) (by decide) (by kernel_rfl) hS (fun K hK => ?_)
  simp only [Mix.pick]
  repeat (go_big_quiet_step (fail))
  refine wpQuiet_nil (hK _ ?_)
  clear hK K
  refine MixH.done (by kernel_rfl) ?_
  go_wp2
  (try simp only [Exit.inBlock, Exit.then])
  refine bodyPost_ret (results_sd_tmp rfl _ _ (O + 2) V rfl HR5.out) rfl ?_
  exact ⟨_, by rw [HV.out]; rfl, HL5.out.fin HN2.out (Nat.le_succ _), rfl⟩
end Go.Proofs.Ythknkfggpdhdbaa
namespace Go.Proofs.Ythknkfggpdhdbaa
open Go.RowKit

theorem news2 (w : World) (t : TypeId) (x y : Value) : ∀ j u, ([x, y] : List Value)[j]? = some u → (w.alloc (.cells #[x, y] t)).cell? ((⟨w.heap.size, 0, none⟩ : Addr).add j) = some u := by
  intro j u hu
  rw [Addr.add_lit, Nat.zero_add, World.cell?_alloc_at _ _ _ _ rfl]
  simpa using hu
theorem PolS.facts {B : Nat} {x : World} {v : SV} {s1 : PS} {N i b : Nat} (h : SideOk B x v) (hs : PolS v.s s1 N i b) : i < s1.pool ∧ s1.bb i = some b ∧ v.s.ln i ≤ s1.size := by
  obtain ⟨m, rest, h1, h2, h3, h4, rfl⟩ := hs
  exact ⟨h3, updF_same _ _ _, h.inv.ln i h3⟩
theorem TakS.facts {v : SV} {s1 : PS} {N i b : Nat} (hs : TakS v.s s1 N i b) : i < s1.pool ∧ s1.bb i = some b ∧ v.s.size ≤ s1.size := by
  obtain ⟨rest, h2, h3, h4, rfl⟩ := hs
  exact ⟨h3, updF_same _ _ _, Nat.le_refl _⟩
theorem BufS.facts {v : SV} {s1 : PS} {N i b : Nat} (hs : BufS v.s s1 N i b) : i < s1.pool ∧ s1.bb i = some b ∧ v.s.size ≤ s1.size := by
  obtain ⟨h3, h4, rfl⟩ := hs
  exact ⟨h3, updF_same _ _ _, Nat.le_refl _⟩
theorem Loc.room {B F : Nat} {w x : World} {v v' : SV} (h : Loc B F w x v v') : B ≤ x.heap.size := Nat.le_trans (h.ok.old v'.P (.inl (.inl (.inl rfl)))) (Nat.le_of_lt (h.ok.lt v'.P (.inl (.inl (.inl rfl)))))
set_option maxRecDepth 100000 in
set_option maxHeartbeats 6400000 in
theorem answered_poll1 (B : Nat) (w : World) (v : SV) (ok : SideOk B w v) (hnow : v.r.now + 8192 ≤ 4611686018427387904) (hWl : v.W.length ≤ 1000000000) (two : Bool) (i n : Int) (oa : Option Addr) (fl oc : Nat) (hf : 0 < v.s.filled) :
    Calls Try.prog 56 #[.agg v.cells, .agg (opC 3 two i n oa fl oc)] w fun e w' => ∃ v', e = .returned (.tuple #[.agg v'.cells, .bool true]) ∧ Stepped B w w' v v' ∧ v'.W.length = v.W.length + 1 := by
  obtain ⟨C, hC⟩ : ∃ C, C = opC 3 two i n oa fl oc := ⟨_, rfl⟩
  rw [← hC]
  obtain ⟨W, hW⟩ : ∃ W, W = ((w.alloc (.cells v.cells 29)).alloc (.cells C 68)).alloc (.cells zS 29) := ⟨_, rfl⟩
  obtain ⟨O, hO⟩ : ∃ O, O = w.heap.size := ⟨_, rfl⟩
  have hbx : Bxs W O v C := by rw [hW, hO]; exact bxs_new w v C
  have hsz : W.heap.size = O + 3 := by rw [hW, hO]; exact bxs_size w v C
  have hL : Loc B (O + 3) w W v v := by rw [← hsz, hW]; exact Loc.start ok (bxs_below w v C)
  have HW : Hid (((w.alloc (.cells v.cells 29)).alloc (.cells C 68)).alloc (.cells #[.pointer none, .int .i64 0, .int .i64 0, .int .i64 0, .slice none 0 0, .int .i64 0, .slice none 0 0] 29) = W) := hW.symm
  have HO : Hid (w.heap.size = O) := hO.symm
  have HSZ : Hid (W.heap.size = O + 3) := hsz
  have HL : Hid _ := hL
  have HB : Hid _ := hbx
  have c0 := hbx.box.c0
  have ck : W.cell? ⟨O + 1, 0, none⟩ = some (.int .i64 3) := by rw [hC] at hbx; exact hbx.ckd
  have ci : W.cell? ⟨O + 1, 2, none⟩ = some (.int .i64 i) := by rw [hC] at hbx; exact hbx.ci
  have cn : W.cell? ⟨O + 1, 3, none⟩ = some (.int .i64 n) := by rw [hC] at hbx; exact hbx.cn
  have HC : Hid (C = opC 3 two i n oa fl oc) := hC
  obtain ⟨j0, ji, jz0, jz1, jz2⟩ := info_parts Try.infoWin
  have Q1 : Hid _ := poll_some hL.ok hf
  clear hW hO hsz hL hC hbx
  go_enter Try.func56, Try.ntmps56
  go_upto_region 1 with fail
  rw [HW.out, HO.out]
  go_wp2_with fail
  refine Calls.mono Q1.out ?_
  rintro e w1 ⟨s1, k, b, rfl, hk, hp⟩
  have HF : Hid _ := PolS.facts HL.out.ok hk
  have hbx1 := HL.out.boxes HO.out HB.out hp.pl
  have hbox1 := hbx1.box
  have ci1 : w1.cell? ⟨O + 1, 2, none⟩ = some (.int .i64 i) := by have h := hbx1; rw [HC.out] at h; exact h.ci
  have HP : Hid _ := hp
  have HB1 : Hid _ := hbx1
  have Q2 : Hid _ := pollR_some HL.out.ok hk hp hnow
  clear Q1 hp hbx1 c0 ck cn ci
  go_wp2_with (first | (refine wpList_load_sr (.tmp 34) rfl O v rfl hbox1 rfl ?_))
  refine Calls.mono Q2.out ?_
  rintro e w2 ⟨r2, rfl, nx⟩
  have HL2 : Hid _ := HL.out.go (by rw [HSZ.out]; omega) HP.out nx
  have HB2 : Hid _ := HB1.out.below nx.bel
  have HN2 : Hid _ := nx.now
  have HLT2 : Hid (O + 3 ≤ w2.heap.size) := HB2.out.lt
  obtain ⟨N, hN⟩ : ∃ N, N = v.s.ln k := ⟨_, rfl⟩
  rw [← hN] at HF ⊢
  clear Q2 hbox1 ci1 nx ok hf hk hN
  have hz := pz w2
  go_wp2_with (first | (refine wpList_store_rp (.tmp 9) (.tmp 37) rfl rfl w2.heap.size rz r2 rfl rfl hz rfl ?_))
  intro w3 hR3 k3
  have L3 := HL2.out.put _ rfl k3
  have h0a : Below w2.heap.size w2 (w2.alloc (.cells #[.int .i64 0, .int .i64 0, .int .i64 0, .slice none 0 0, .int .i64 0] 26)) := (Below.refl _ _).alloc (Nat.le_refl _) _
  have hlt2 := HB2.out.lt
  have hbx3 := (HB2.out.below h0a).ch k3 (show ¬ O = w2.heap.size by omega) (show ¬ O + 1 = w2.heap.size by omega) (show ¬ O + 2 = w2.heap.size by omega)
  have hbox3 := hbx3.box
  have HL3 : Hid _ := L3
  have HB3 : Hid _ := hbx3
  have K23 : Hid (Ch (fun q => q = O ∨ w2.heap.size ≤ q) w2 w3) := (Ch.ofBelow (S := fun q => q = O ∨ w2.heap.size ≤ q) h0a).trans k3 (fun q _ e => .inr (by have e' : q = w2.heap.size := e; omega))
  clear L3 h0a hlt2 hbx3 k3 hz
  go_wp2_with (first | (refine wpList_load_rp (.tmp 9) rfl w2.heap.size r2 rfl hR3 rfl ?_) | (refine wpList_store_sr (.tmp 42) (.tmp 41) rfl rfl O v r2 rfl rfl hbox3 rfl ?_))
  intro w4 hbox4 k4
  have L4 := HL3.out.set (X := O) (by have := HO.out; omega) (by omega) k4
  have hop4 := (k4.block (O + 1) (Array.getElem?_eq_some_iff.1 HB3.out.op).1 (show ¬ O + 1 = O by omega)).trans HB3.out.op
  have hres4 := (k4.block (O + 2) (Array.getElem?_eq_some_iff.1 HB3.out.res).1 (show ¬ O + 2 = O by omega)).trans HB3.out.res
  have HL4 : Hid _ := L4
  have K24 : Hid (Ch (fun q => q = O ∨ w2.heap.size ≤ q) w2 w4) := K23.out.trans k4 (fun q _ e => .inl e)
  have HOP4 : Hid _ := hop4
  clear L4 hop4 k4 hbox3 hR3 K23
  obtain ⟨V, hV⟩ : ∃ V : SV, V = { v with r := r2 } := ⟨_, rfl⟩
  rw [← hV] at hbox4
  have HV : Hid (V = { v with r := r2 }) := hV
  clear hV
  have HLT : Hid (O + 3 ≤ w4.heap.size) := Nat.le_trans HLT2.out K24.out.size
  have c6 : w4.cell? ⟨O, 6, none⟩ = some (.slice v.wa v.W.length v.wc) := by have h := hbox4.c6; rw [HV.out] at h; exact h
  have hown4 : (w4.alloc (.cells #[.slice (some ⟨b, 0, none⟩) N N, .int .i64 k] 117)).ownsRow B 117 2 (.slice v.wa v.W.length v.wc) v.W.length (v.W.flatMap WV.cells) := HL4.out.ok.own.alloc _
  have hF4 : O + 3 ≤ w4.heap.size := HLT.out
  have hB4 : B ≤ (w4.alloc (.cells #[.slice (some ⟨b, 0, none⟩) N N, .int .i64 k] 117)).heap.size := by have := HL4.out.room; simp; omega
  go_wp2_with (first | (at_builtin; refine append_splitK 2 (by decide) rfl (.tmp 67) (.tmp 71) 27 rfl B 117 j0 (.agg #[.slice none 0 0, .int .i64 0]) 32 Try.underlying27 ji jz0 jz1 jz2 rfl (.slice v.wa v.W.length v.wc) v.W.length (v.W.flatMap WV.cells) rfl hown4 ⟨w4.heap.size, 0, none⟩ 1 1 [.slice (some ⟨b, 0, none⟩) N N, .int .i64 k] rfl rfl (news2 _ _ _ _) (by intro u hu; simp at hu; rcases hu with rfl | rfl <;> rfl) (by unfold maxLen; omega) (by omega) hB4 ?_))
  intro u w5 ho5 hg5
  obtain ⟨wa', wc', rfl, L5, k5⟩ := HL4.out.addW ⟨rfl, rfl, rfl⟩ hF4 HF.out.1 HF.out.2.1 HF.out.2.2 ho5 hg5
  have hold := HL4.out.old
  have nO : ∀ q, O ≤ q → q < O + 3 → ¬ (SV.wb v q ∨ w4.heap.size ≤ q) := fun q h1 h2 e => by
    rcases e with e | e
    · have := hold q (.inl (.inr e)); have := HO.out; omega
    · omega
  have hbox5 : SdAt w5 O V := hbox4.ch k5 (nO O (by omega) (by omega))
  have hres5 := (k5.block (O + 2) (Array.getElem?_eq_some_iff.1 hres4).1 (nO (O + 2) (by omega) (by omega))).trans hres4
  have hop5 := (k5.block (O + 1) (Array.getElem?_eq_some_iff.1 HOP4.out).1 (nO (O + 1) (by omega) (by omega))).trans HOP4.out
  rw [HV.out] at hbox5
  have c65 : w5.cell? ⟨O, 6, none⟩ = some (.slice v.wa v.W.length v.wc) := hbox5.c6
  have f65 := hbox5.fz 6
  obtain ⟨hbox6, k6⟩ := hbox5.setW wa' wc' (v.W ++ [WV.mk b N k])
  have HL6 : Hid _ := L5.set (X := O) (by have := HO.out; omega) (by omega) k6
  have hres6 := (k6.block (O + 2) (Array.getElem?_eq_some_iff.1 hres5).1 (show ¬ O + 2 = O by omega)).trans hres5
  have hop6 := (k6.block (O + 1) (Array.getElem?_eq_some_iff.1 hop5).1 (show ¬ O + 1 = O by omega)).trans hop5
  obtain ⟨lw, hlw⟩ : ∃ lw, lw = (v.W ++ [WV.mk b N k]).length := ⟨_, rfl⟩
  have elw : lw = v.W.length + 1 := by rw [hlw]; simp
  obtain ⟨w6, hw6⟩ : ∃ w6, w6 = w5.setCell ⟨O, 6, none⟩ (.slice wa' lw wc') := ⟨_, rfl⟩
  rw [← hlw, ← hw6] at hbox6 hres6 hop6 HL6
  have HBX6 : Hid _ := hbox6
  have HRS6 : Hid _ := hres6
  have HOP6 : Hid (w6.heap[O + 1]? = some (.cells C 68 (0, 0))) := hop6
  have HW6 : Hid (w5.setCell ⟨O, 6, none⟩ (.slice wa' lw wc') = w6) := hw6.symm
  have HLW : Hid (lw = v.W.length + 1) := elw
  rw [show (({ v with r := r2 } : SV).W ++ [WV.mk b N k]).length = lw from hlw.symm]
  clear hbox6 hres6 hop6 hw6 hlw elw hop5 hres5 hbox5 nO hold k6 k5 L5 ho5 hg5 hF4 hB4 hown4 c6 hbox4 hres4
  go_wp2
  rw [HW6.out]
  refine MixH.start (fun x => SdAt x O { ({ v with r := r2 } : SV) with wa := wa', wc := wc', W := v.W ++ [WV.mk b N k] } ∧ x.cell? ⟨O + 1, 2, none⟩ = some (.int .i64 i)) (by kernel_rfl) ?_
  obtain ⟨wA, hwA⟩ : ∃ wA, wA = w6.drew := ⟨_, rfl⟩
  obtain ⟨V2, hV2⟩ : ∃ V2 : SV, V2 = { ({ v with r := r2 } : SV) with wa := wa', wc := wc', W := v.W ++ [WV.mk b N k] } := ⟨_, rfl⟩
  have hS : SdAt wA O V2 ∧ wA.cell? ⟨O + 1, 2, none⟩ = some (.int .i64 i) := by
    rw [hwA, hV2]
    refine ⟨HBX6.out, ?_⟩
    have h := HOP6.out
    rw [HC.out] at h
    show w6.cell? _ = _
    simp [World.cell?, h, opC]
  have hresA : wA.heap[O + 2]? = some (.cells zS 29 (0, 0)) := by rw [hwA]; exact HRS6.out
  have HLA : Hid _ := HL6.out.below (Below.refl w6.heap.size w6).drew
  rw [← hwA] at HLA ⊢
  rw [← hV2]
  have HV2 : Hid _ := hV2
  clear hwA hV2 HBX6 HRS6 HW6 c65 f65
  refine MixH.takes [false, false, true, true, true] 5 (by kernel_rfl) (by kernel_rfl) (by decide) (by kernel_rfl) hS (fun K hK => ?_)
  simp only [Mix.pick]
  repeat (go_big_quiet_step (fail))
  refine wpQuiet_nil (hK _ ?_)
  clear hK K
  refine MixH.take 4 0 _ (.agg V2.cells) rfl (by kernel_rfl) (by kernel_rfl) (by kernel_rfl) (by kernel_rfl) (yields_sd (.tmp 2) rfl O V2 rfl rfl (fun _ h => h.1)) hS (fun a' ha => ?_)
  simp only [Act.put, List.setIfInBounds_toArray, List.set_cons_succ, List.set_cons_zero] at ha
  subst ha
  refine MixH.take 3 1 _ (.agg V2.cells) rfl (by kernel_rfl) (by kernel_rfl) (by kernel_rfl) (by kernel_rfl) (yields_sd (.tmp 2) rfl O V2 rfl rfl (fun _ h => h.1)) hS (fun a' ha => ?_)
  simp only [Act.put, List.setIfInBounds_toArray, List.set_cons_succ, List.set_cons_zero] at ha
  subst ha
  refine MixH.one [false, false, false, false, false, true] 2 5 _ rfl rfl (by kernel_rfl) (by kernel_rfl) (fun K hK => ?_)
  simp only [Mix.pick]
  obtain ⟨hl, d, d1, d2, d3, d4, d5⟩ := HLA.out.ok.win HF.out.1 HF.out.2.1 HF.out.2.2
  have QR : Hid (Calls Try.prog 66 #[.agg V2.cells, .slice (some ⟨b, 0, none⟩) N N, .int .i64 k, .int .i64 (N : Nat)] wA fun e w' => e = .returned (.bool true) ∧ Below wA.heap.size wA w') := by
    rw [HV2.out]
    exact right_any wA _ HLA.out.ok.ref k N b d hl d2 d1 d3 d4 d5
  clear d1 d2 d3 d4 d5
  go_wp2_with fail
  refine Calls.mono QR.out ?_
  rintro e wB ⟨rfl, hqB⟩
  have HLB : Hid _ := HLA.out.below hqB
  have hresB := (hqB.block (O + 2) (Array.getElem?_eq_some_iff.1 hresA).1).trans hresA
  replace hS : SdAt wB O V2 ∧ wB.cell? ⟨O + 1, 2, none⟩ = some (.int .i64 i) := ⟨hS.1.below hqB, (hqB.cell (p := ⟨O + 1, 2, none⟩) (World.block_lt_of_cell? _ _ hS.2)).trans hS.2⟩
  clear QR hqB HLA hresA
  go_wp2
  refine ⟨rfl, hK _ _ hS ?_⟩
  clear hK K
  refine MixH.one [false, false, false, false, false, false, true] 1 6 _ rfl rfl (by kernel_rfl) (by kernel_rfl) (fun K hK => ?_)
  simp only [Mix.pick]
  refine wpList_store_sd (.tmp 4) (.tmp 74) rfl rfl (O + 2) zS rfl V2 rfl rfl hresB rfl ?_
  intro w7 hR7 k7
  have L7 := HLB.out.set (X := O + 2) (by have := HO.out; omega) (by omega) k7
  have HR7 : Hid _ := hR7
  have HL7 : Hid _ := L7
  replace hS : SdAt w7 O V2 ∧ w7.cell? ⟨O + 1, 2, none⟩ = some (.int .i64 i) := ⟨hS.1.ch k7 (show ¬ O = O + 2 by omega), k7.cell hS.2 (show ¬ O + 1 = O + 2 by omega)⟩
  clear L7 k7 hR7 hresB
  go_wp2
  refine ⟨rfl, hK _ _ hS ?_⟩
  clear hK K
  refine MixH.takes [false, false, false, false, false, false, false, true] 0 (by kernel_rfl) (by kernel_rfl) (by decide) (by kernel_rfl) hS (fun K hK => ?_)
  simp only [Mix.pick]
  repeat (go_big_quiet_step (fail))
  refine wpQuiet_nil (hK _ ?_)
  clear hK K
  refine MixH.done (by kernel_rfl) ?_
  go_wp2
  (try simp only [Exit.inBlock, Exit.then])
  refine bodyPost_ret (results_sd_tmp rfl _ _ (O + 2) V2 rfl HR7.out) rfl ?_
  exact ⟨_, by rw [HV2.out]; rfl, HL7.out.fin HN2.out (by show (v.W ++ _).length ≤ _; simp), by show (v.W ++ _).length = _; simp⟩
set_option maxRecDepth 100000 in
set_option maxHeartbeats 6400000 in
theorem answered_take1 (B : Nat) (w : World) (v : SV) (ok : SideOk B w v) (hnow : v.r.now + 8192 ≤ 4611686018427387904) (hWl : v.W.length ≤ 1000000000) (two : Bool) (i n : Int) (oa : Option Addr) (fl oc : Nat) (hf : v.s.fr ≠ []) :
    Calls Try.prog 56 #[.agg v.cells, .agg (opC 4 two i n oa fl oc)] w fun e w' => ∃ v', e = .returned (.tuple #[.agg v'.cells, .bool true]) ∧ Stepped B w w' v v' ∧ v'.W.length = v.W.length + 1 := by
  obtain ⟨C, hC⟩ : ∃ C, C = opC 4 two i n oa fl oc := ⟨_, rfl⟩
  rw [← hC]
  obtain ⟨W, hW⟩ : ∃ W, W = ((w.alloc (.cells v.cells 29)).alloc (.cells C 68)).alloc (.cells zS 29) := ⟨_, rfl⟩
  obtain ⟨O, hO⟩ : ∃ O, O = w.heap.size := ⟨_, rfl⟩
  have hbx : Bxs W O v C := by rw [hW, hO]; exact bxs_new w v C
  have hsz : W.heap.size = O + 3 := by rw [hW, hO]; exact bxs_size w v C
  have hL : Loc B (O + 3) w W v v := by rw [← hsz, hW]; exact Loc.start ok (bxs_below w v C)
  have HW : Hid (((w.alloc (.cells v.cells 29)).alloc (.cells C 68)).alloc (.cells #[.pointer none, .int .i64 0, .int .i64 0, .int .i64 0, .slice none 0 0, .int .i64 0, .slice none 0 0] 29) = W) := hW.symm
  have HO : Hid (w.heap.size = O) := hO.symm
  have HSZ : Hid (W.heap.size = O + 3) := hsz
  have HL : Hid _ := hL
  have HB : Hid _ := hbx
  have c0 := hbx.box.c0
  have ck : W.cell? ⟨O + 1, 0, none⟩ = some (.int .i64 4) := by rw [hC] at hbx; exact hbx.ckd
  have ci : W.cell? ⟨O + 1, 2, none⟩ = some (.int .i64 i) := by rw [hC] at hbx; exact hbx.ci
  have cn : W.cell? ⟨O + 1, 3, none⟩ = some (.int .i64 n) := by rw [hC] at hbx; exact hbx.cn
  have HC : Hid (C = opC 4 two i n oa fl oc) := hC
  obtain ⟨j0, ji, jz0, jz1, jz2⟩ := info_parts Try.infoWin
  have Q1 : Hid _ := take_some hL.ok hf
  clear hW hO hsz hL hC hbx
  go_enter Try.func56, Try.ntmps56
  go_upto_region 1 with fail
  rw [HW.out, HO.out]
  go_wp2_with fail
  refine Calls.mono Q1.out ?_
  rintro e w1 ⟨s1, k, b, rfl, hk, hp⟩
  have HF : Hid _ := TakS.facts hk
  have hbx1 := HL.out.boxes HO.out HB.out hp.pl
  have hbox1 := hbx1.box
  have ci1 : w1.cell? ⟨O + 1, 2, none⟩ = some (.int .i64 i) := by have h := hbx1; rw [HC.out] at h; exact h.ci
  have HP : Hid _ := hp
  have HB1 : Hid _ := hbx1
  have Q2 : Hid _ := takeR_some HL.out.ok hk hp hnow
  clear Q1 hp hbx1 c0 ck cn ci
  go_wp2_with (first | (refine wpList_load_sr (.tmp 90) rfl O v rfl hbox1 rfl ?_))
  refine Calls.mono Q2.out ?_
  rintro e w2 ⟨r2, rfl, nx⟩
  have HL2 : Hid _ := HL.out.go (by rw [HSZ.out]; omega) HP.out nx
  have HB2 : Hid _ := HB1.out.below nx.bel
  have HN2 : Hid _ := nx.now
  have HLT2 : Hid (O + 3 ≤ w2.heap.size) := HB2.out.lt
  obtain ⟨N, hN⟩ : ∃ N, N = v.s.size := ⟨_, rfl⟩
  have HRZ : Hid (r2.size = N) := by rw [hN]; exact nx.tw.size.trans HP.out.pl.size
  rw [← hN] at HF ⊢
  clear Q2 hbox1 ci1 nx ok hf hk hN
  have hz := pz w2
  go_wp2_with (first | (refine wpList_store_rp (.tmp 16) (.tmp 93) rfl rfl w2.heap.size rz r2 rfl rfl hz rfl ?_))
  intro w3 hR3 k3
  have L3 := HL2.out.put _ rfl k3
  have h0a : Below w2.heap.size w2 (w2.alloc (.cells #[.int .i64 0, .int .i64 0, .int .i64 0, .slice none 0 0, .int .i64 0] 26)) := (Below.refl _ _).alloc (Nat.le_refl _) _
  have hlt2 := HB2.out.lt
  have hbx3 := (HB2.out.below h0a).ch k3 (show ¬ O = w2.heap.size by omega) (show ¬ O + 1 = w2.heap.size by omega) (show ¬ O + 2 = w2.heap.size by omega)
  have hbox3 := hbx3.box
  have HL3 : Hid _ := L3
  have HB3 : Hid _ := hbx3
  have K23 : Hid (Ch (fun q => q = O ∨ w2.heap.size ≤ q) w2 w3) := (Ch.ofBelow (S := fun q => q = O ∨ w2.heap.size ≤ q) h0a).trans k3 (fun q _ e => .inr (by have e' : q = w2.heap.size := e; omega))
  clear L3 h0a hlt2 hbx3 k3 hz
  go_wp2_with (first | (refine wpList_load_rp (.tmp 16) rfl w2.heap.size r2 rfl hR3 rfl ?_) | (refine wpList_store_sr (.tmp 97) (.tmp 96) rfl rfl O v r2 rfl rfl hbox3 rfl ?_))
  intro w4 hbox4 k4
  have L4 := HL3.out.set (X := O) (by have := HO.out; omega) (by omega) k4
  have hop4 := (k4.block (O + 1) (Array.getElem?_eq_some_iff.1 HB3.out.op).1 (show ¬ O + 1 = O by omega)).trans HB3.out.op
  have hres4 := (k4.block (O + 2) (Array.getElem?_eq_some_iff.1 HB3.out.res).1 (show ¬ O + 2 = O by omega)).trans HB3.out.res
  have HL4 : Hid _ := L4
  have K24 : Hid (Ch (fun q => q = O ∨ w2.heap.size ≤ q) w2 w4) := K23.out.trans k4 (fun q _ e => .inl e)
  have HOP4 : Hid _ := hop4
  clear L4 hop4 k4 hbox3 hR3 K23
  obtain ⟨V, hV⟩ : ∃ V : SV, V = { v with r := r2 } := ⟨_, rfl⟩
  rw [← hV] at hbox4
  have HV : Hid (V = { v with r := r2 }) := hV
  clear hV
  have HLT : Hid (O + 3 ≤ w4.heap.size) := Nat.le_trans HLT2.out K24.out.size
  have QN : Hid _ := num_any 0 w4
  go_wp2_with fail
  refine Calls.mono QN.out ?_
  rintro e wN ⟨rfl, rfl⟩
  clear QN
  have c6 : w4.cell? ⟨O, 6, none⟩ = some (.slice v.wa v.W.length v.wc) := by have h := hbox4.c6; rw [HV.out] at h; exact h
  have hown4 : (w4.alloc (.cells #[.slice (some ⟨b, 0, none⟩) N N, .int .i64 k] 117)).ownsRow B 117 2 (.slice v.wa v.W.length v.wc) v.W.length (v.W.flatMap WV.cells) := HL4.out.ok.own.alloc _
  have hF4 : O + 3 ≤ w4.heap.size := HLT.out
  have hB4 : B ≤ (w4.alloc (.cells #[.slice (some ⟨b, 0, none⟩) N N, .int .i64 k] 117)).heap.size := by have := HL4.out.room; simp; omega
  go_wp2_with (first | (at_builtin; refine append_splitK 2 (by decide) rfl (.tmp 124) (.tmp 128) 27 rfl B 117 j0 (.agg #[.slice none 0 0, .int .i64 0]) 32 Try.underlying27 ji jz0 jz1 jz2 rfl (.slice v.wa v.W.length v.wc) v.W.length (v.W.flatMap WV.cells) rfl hown4 ⟨w4.heap.size, 0, none⟩ 1 1 [.slice (some ⟨b, 0, none⟩) N N, .int .i64 k] rfl rfl (news2 _ _ _ _) (by intro u hu; simp at hu; rcases hu with rfl | rfl <;> rfl) (by unfold maxLen; omega) (by omega) hB4 ?_))
  intro u w5 ho5 hg5
  obtain ⟨wa', wc', rfl, L5, k5⟩ := HL4.out.addW ⟨rfl, rfl, rfl⟩ hF4 HF.out.1 HF.out.2.1 HF.out.2.2 ho5 hg5
  have hold := HL4.out.old
  have nO : ∀ q, O ≤ q → q < O + 3 → ¬ (SV.wb v q ∨ w4.heap.size ≤ q) := fun q h1 h2 e => by
    rcases e with e | e
    · have := hold q (.inl (.inr e)); have := HO.out; omega
    · omega
  have hbox5 : SdAt w5 O V := hbox4.ch k5 (nO O (by omega) (by omega))
  have hres5 := (k5.block (O + 2) (Array.getElem?_eq_some_iff.1 hres4).1 (nO (O + 2) (by omega) (by omega))).trans hres4
  have hop5 := (k5.block (O + 1) (Array.getElem?_eq_some_iff.1 HOP4.out).1 (nO (O + 1) (by omega) (by omega))).trans HOP4.out
  rw [HV.out] at hbox5
  have c65 : w5.cell? ⟨O, 6, none⟩ = some (.slice v.wa v.W.length v.wc) := hbox5.c6
  have f65 := hbox5.fz 6
  obtain ⟨hbox6, k6⟩ := hbox5.setW wa' wc' (v.W ++ [WV.mk b N k])
  have HL6 : Hid _ := L5.set (X := O) (by have := HO.out; omega) (by omega) k6
  have hres6 := (k6.block (O + 2) (Array.getElem?_eq_some_iff.1 hres5).1 (show ¬ O + 2 = O by omega)).trans hres5
  have hop6 := (k6.block (O + 1) (Array.getElem?_eq_some_iff.1 hop5).1 (show ¬ O + 1 = O by omega)).trans hop5
  obtain ⟨lw, hlw⟩ : ∃ lw, lw = (v.W ++ [WV.mk b N k]).length := ⟨_, rfl⟩
  have elw : lw = v.W.length + 1 := by rw [hlw]; simp
  obtain ⟨w6, hw6⟩ : ∃ w6, w6 = w5.setCell ⟨O, 6, none⟩ (.slice wa' lw wc') := ⟨_, rfl⟩
  rw [← hlw, ← hw6] at hbox6 hres6 hop6 HL6
  have HBX6 : Hid _ := hbox6
  have HRS6 : Hid _ := hres6
  have HOP6 : Hid (w6.heap[O + 1]? = some (.cells C 68 (0, 0))) := hop6
  have HW6 : Hid (w5.setCell ⟨O, 6, none⟩ (.slice wa' lw wc') = w6) := hw6.symm
  have HLW : Hid (lw = v.W.length + 1) := elw
  rw [show (({ v with r := r2 } : SV).W ++ [WV.mk b N k]).length = lw from hlw.symm]
  clear hbox6 hres6 hop6 hw6 hlw elw hop5 hres5 hbox5 nO hold k6 k5 L5 ho5 hg5 hF4 hB4 hown4 c6 hbox4 hres4
  go_wp2
  rw [HW6.out]
  refine MixH.start (fun x => SdAt x O { ({ v with r := r2 } : SV) with wa := wa', wc := wc', W := v.W ++ [WV.mk b N k] } ∧ x.cell? ⟨O + 1, 2, none⟩ = some (.int .i64 i)) (by kernel_rfl) ?_
  obtain ⟨wA, hwA⟩ : ∃ wA, wA = w6.drew := ⟨_, rfl⟩
  obtain ⟨V2, hV2⟩ : ∃ V2 : SV, V2 = { ({ v with r := r2 } : SV) with wa := wa', wc := wc', W := v.W ++ [WV.mk b N k] } := ⟨_, rfl⟩
  have hS : SdAt wA O V2 ∧ wA.cell? ⟨O + 1, 2, none⟩ = some (.int .i64 i) := by
    rw [hwA, hV2]
    refine ⟨HBX6.out, ?_⟩
    have h := HOP6.out
    rw [HC.out] at h
    show w6.cell? _ = _
    simp [World.cell?, h, opC]
  have hresA : wA.heap[O + 2]? = some (.cells zS 29 (0, 0)) := by rw [hwA]; exact HRS6.out
  have HLA : Hid _ := HL6.out.below (Below.refl w6.heap.size w6).drew
  rw [← hwA] at HLA ⊢
  rw [← hV2]
  have HV2 : Hid _ := hV2
  clear hwA hV2 HBX6 HRS6 HW6 c65 f65
  refine MixH.takes [false, false, true, true, true, true] 6 (by kernel_rfl) (by kernel_rfl) (by decide) (by kernel_rfl) hS (fun K hK => ?_)
  simp only [Mix.pick]
  repeat (go_big_quiet_step (fail))
  refine wpQuiet_nil (hK _ ?_)
  clear hK K
  refine MixH.take 5 0 _ (.agg V2.cells) rfl (by kernel_rfl) (by kernel_rfl) (by kernel_rfl) (by kernel_rfl) (yields_sd (.tmp 2) rfl O V2 rfl rfl (fun _ h => h.1)) hS (fun a' ha => ?_)
  simp only [Act.put, List.setIfInBounds_toArray, List.set_cons_succ, List.set_cons_zero] at ha
  subst ha
  refine MixH.take 4 1 _ (.agg V2.cells) rfl (by kernel_rfl) (by kernel_rfl) (by kernel_rfl) (by kernel_rfl) (yields_sd (.tmp 2) rfl O V2 rfl rfl (fun _ h => h.1)) hS (fun a' ha => ?_)
  simp only [Act.put, List.setIfInBounds_toArray, List.set_cons_succ, List.set_cons_zero] at ha
  subst ha
  refine MixH.take 3 6 _ (.int .i64 (N : Nat)) rfl (by kernel_rfl) (by kernel_rfl) (by kernel_rfl) (by kernel_rfl) (yields_int (.tmp 136) rfl O 3 (.int .i64 (N : Nat)) rfl rfl (fun _ h => by have h3 := h.1.c3; rw [HV2.out] at h3; rw [← HRZ.out]; exact h3)) hS (fun a' ha => ?_)
  simp only [Act.put, List.setIfInBounds_toArray, List.set_cons_succ, List.set_cons_zero] at ha
  subst ha
  refine MixH.one [false, false, false, false, false, false, false, true] 2 7 _ rfl rfl (by kernel_rfl) (by kernel_rfl) (fun K hK => ?_)
  simp only [Mix.pick]
  obtain ⟨hl, d, d1, d2, d3, d4, d5⟩ := HLA.out.ok.win HF.out.1 HF.out.2.1 HF.out.2.2
  have QR : Hid (Calls Try.prog 66 #[.agg V2.cells, .slice (some ⟨b, 0, none⟩) N N, .int .i64 k, .int .i64 (N : Nat)] wA fun e w' => e = .returned (.bool true) ∧ Below wA.heap.size wA w') := by
    rw [HV2.out]
    exact right_any wA _ HLA.out.ok.ref k N b d hl d2 d1 d3 d4 d5
  clear d1 d2 d3 d4 d5
  go_wp2_with fail
  refine Calls.mono QR.out ?_
  rintro e wB ⟨rfl, hqB⟩
  have HLB : Hid _ := HLA.out.below hqB
  have hresB := (hqB.block (O + 2) (Array.getElem?_eq_some_iff.1 hresA).1).trans hresA
  replace hS : SdAt wB O V2 ∧ wB.cell? ⟨O + 1, 2, none⟩ = some (.int .i64 i) := ⟨hS.1.below hqB, (hqB.cell (p := ⟨O + 1, 2, none⟩) (World.block_lt_of_cell? _ _ hS.2)).trans hS.2⟩
  clear QR hqB HLA hresA
  go_wp2
  refine ⟨rfl, hK _ _ hS ?_⟩
  clear hK K
  refine MixH.one [false, false, false, false, false, false, false, false, true] 1 8 _ rfl rfl (by kernel_rfl) (by kernel_rfl) (fun K hK => ?_)
  simp only [Mix.pick]
  refine wpList_store_sd (.tmp 4) (.tmp 131) rfl rfl (O + 2) zS rfl V2 rfl rfl hresB rfl ?_
  intro w7 hR7 k7
  have L7 := HLB.out.set (X := O + 2) (by have := HO.out; omega) (by omega) k7
  have HR7 : Hid _ := hR7
  have HL7 : Hid _ := L7
  replace hS : SdAt w7 O V2 ∧ w7.cell? ⟨O + 1, 2, none⟩ = some (.int .i64 i) := ⟨hS.1.ch k7 (show ¬ O = O + 2 by omega), k7.cell hS.2 (show ¬ O + 1 = O + 2 by omega)⟩
  clear L7 k7 hR7 hresB
  go_wp2
  refine ⟨rfl, hK _ _ hS ?_⟩
  clear hK K
  refine MixH.takes [false, false, false, false, false, false, false, false, false, true] 0 (by kernel_rfl) (by kernel_rfl) (by decide) (by kernel_rfl) hS (fun K hK => ?_)
  simp only [Mix.pick]
  repeat (go_big_quiet_step (fail))
  refine wpQuiet_nil (hK _ ?_)
  clear hK K
  refine MixH.done (by kernel_rfl) ?_
  go_wp2
  (try simp only [Exit.inBlock, Exit.then])
  refine bodyPost_ret (results_sd_tmp rfl _ _ (O + 2) V2 rfl HR7.out) rfl ?_
  exact ⟨_, by rw [HV2.out]; rfl, HL7.out.fin HN2.out (by show (v.W ++ _).length ≤ _; simp), by show (v.W ++ _).length = _; simp⟩
set_option maxRecDepth 100000 in
set_option maxHeartbeats 6400000 in
theorem answered_buf1 (B : Nat) (w : World) (v : SV) (ok : SideOk B w v) (hWl : v.W.length ≤ 1000000000) (two : Bool) (i n : Int) (oa : Option Addr) (fl oc : Nat) (he : hE v.s i = 0) :
    Calls Try.prog 56 #[.agg v.cells, .agg (opC 5 two i n oa fl oc)] w fun e w' => ∃ v', e = .returned (.tuple #[.agg v'.cells, .bool true]) ∧ Stepped B w w' v v' ∧ v'.W.length = v.W.length + 1 := by
  obtain ⟨C, hC⟩ : ∃ C, C = opC 5 two i n oa fl oc := ⟨_, rfl⟩
  rw [← hC]
  obtain ⟨W, hW⟩ : ∃ W, W = ((w.alloc (.cells v.cells 29)).alloc (.cells C 68)).alloc (.cells zS 29) := ⟨_, rfl⟩
  obtain ⟨O, hO⟩ : ∃ O, O = w.heap.size := ⟨_, rfl⟩
  have hbx : Bxs W O v C := by rw [hW, hO]; exact bxs_new w v C
  have hsz : W.heap.size = O + 3 := by rw [hW, hO]; exact bxs_size w v C
  have hL : Loc B (O + 3) w W v v := by rw [← hsz, hW]; exact Loc.start ok (bxs_below w v C)
  have HW : Hid (((w.alloc (.cells v.cells 29)).alloc (.cells C 68)).alloc (.cells #[.pointer none, .int .i64 0, .int .i64 0, .int .i64 0, .slice none 0 0, .int .i64 0, .slice none 0 0] 29) = W) := hW.symm
  have HO : Hid (w.heap.size = O) := hO.symm
  have HSZ : Hid (W.heap.size = O + 3) := hsz
  have HL : Hid _ := hL
  have HB : Hid _ := hbx
  have c0 := hbx.box.c0
  have ck : W.cell? ⟨O + 1, 0, none⟩ = some (.int .i64 5) := by rw [hC] at hbx; exact hbx.ckd
  have ci : W.cell? ⟨O + 1, 2, none⟩ = some (.int .i64 i) := by rw [hC] at hbx; exact hbx.ci
  have cn : W.cell? ⟨O + 1, 3, none⟩ = some (.int .i64 n) := by rw [hC] at hbx; exact hbx.cn
  have HC : Hid (C = opC 5 two i n oa fl oc) := hC
  obtain ⟨j0, ji, jz0, jz1, jz2⟩ := info_parts Try.infoWin
  have Q1 : Hid _ := buffer_some hL.ok i he
  clear hW hO hsz hL hC hbx
  go_enter Try.func56, Try.ntmps56
  go_upto_region 1 with fail
  rw [HW.out, HO.out]
  go_wp2_with fail
  refine Calls.mono Q1.out ?_
  rintro e w1 ⟨s1, k, b, hik, rfl, hk, hp⟩
  have HF : Hid _ := BufS.facts hk
  have hbx1 := HL.out.boxes HO.out HB.out hp.pl
  have hbox1 := hbx1.box
  have ci1 : w1.cell? ⟨O + 1, 2, none⟩ = some (.int .i64 i) := by have h := hbx1; rw [HC.out] at h; exact h.ci
  have HP : Hid _ := hp
  have HB1 : Hid _ := hbx1
  have Q2 : Hid _ := bufferR_u HL.out.ok i hp (by obtain ⟨_, _, h⟩ := hk; rw [h]; exact HL.out.ok.twin.bbs _)
  rw [he] at Q2
  have HIK : Hid (i = (k : Int)) := hik
  clear Q1 hp hbx1 c0 ck cn ci hik
  go_wp2_with (first | (refine wpList_load_sr (.tmp 147) rfl O v rfl hbox1 rfl ?_))
  refine Calls.mono Q2.out ?_
  rintro e w2 ⟨rfl, nx⟩
  have HL2 : Hid _ := HL.out.go (by rw [HSZ.out]; omega) HP.out nx
  have HB2 : Hid _ := HB1.out.below nx.bel
  have HN2 : Hid _ := nx.now
  have HLT : Hid (O + 3 ≤ w2.heap.size) := HB2.out.lt
  obtain ⟨N, hN⟩ : ∃ N, N = v.s.size := ⟨_, rfl⟩
  have HRZ : Hid (v.r.size = N) := by rw [hN]; exact HL.out.ok.twin.size
  rw [← hN] at HF ⊢
  have HL4 : Hid _ := HL2.out
  have hbox4 : SdAt w2 O v := HB2.out.box
  have hres4 := HB2.out.res
  have HOP4 : Hid _ := HB2.out.op
  have ci4 : w2.cell? ⟨O + 1, 2, none⟩ = some (.int .i64 (k : Int)) := by rw [← HIK.out]; have h := HB2.out; rw [HC.out] at h; exact h.ci
  obtain ⟨V, hV⟩ : ∃ V : SV, V = v := ⟨_, rfl⟩
  rw [← hV] at hbox4
  have HV : Hid (V = v) := hV
  clear Q2 hbox1 ci1 nx ok he hk hN hV
  have QN : Hid _ := num_any 0 w2
  go_wp2_with fail
  refine Calls.mono QN.out ?_
  rintro e wN ⟨rfl, rfl⟩
  clear QN
  have c6 : w2.cell? ⟨O, 6, none⟩ = some (.slice v.wa v.W.length v.wc) := by have h := hbox4.c6; rw [HV.out] at h; exact h
  have hown4 : (w2.alloc (.cells #[.slice (some ⟨b, 0, none⟩) N N, .int .i64 k] 117)).ownsRow B 117 2 (.slice v.wa v.W.length v.wc) v.W.length (v.W.flatMap WV.cells) := HL4.out.ok.own.alloc _
  have hF4 : O + 3 ≤ w2.heap.size := HLT.out
  have hB4 : B ≤ (w2.alloc (.cells #[.slice (some ⟨b, 0, none⟩) N N, .int .i64 k] 117)).heap.size := by have := HL4.out.room; simp; omega
  go_wp2_with (first | (at_builtin; refine append_splitK 2 (by decide) rfl (.tmp 171) (.tmp 176) 27 rfl B 117 j0 (.agg #[.slice none 0 0, .int .i64 0]) 32 Try.underlying27 ji jz0 jz1 jz2 rfl (.slice v.wa v.W.length v.wc) v.W.length (v.W.flatMap WV.cells) rfl hown4 ⟨w2.heap.size, 0, none⟩ 1 1 [.slice (some ⟨b, 0, none⟩) N N, .int .i64 k] rfl rfl (news2 _ _ _ _) (by intro u hu; simp at hu; rcases hu with rfl | rfl <;> rfl) (by unfold maxLen; omega) (by omega) hB4 ?_))
  intro u w5 ho5 hg5
  obtain ⟨wa', wc', rfl, L5, k5⟩ := HL4.out.addW ⟨rfl, rfl, rfl⟩ hF4 HF.out.1 HF.out.2.1 HF.out.2.2 ho5 hg5
  have hold := HL4.out.old
  have nO : ∀ q, O ≤ q → q < O + 3 → ¬ (SV.wb v q ∨ w2.heap.size ≤ q) := fun q h1 h2 e => by
    rcases e with e | e
    · have := hold q (.inl (.inr e)); have := HO.out; omega
    · omega
  have hbox5 : SdAt w5 O V := hbox4.ch k5 (nO O (by omega) (by omega))
  have hres5 := (k5.block (O + 2) (Array.getElem?_eq_some_iff.1 hres4).1 (nO (O + 2) (by omega) (by omega))).trans hres4
  have hop5 := (k5.block (O + 1) (Array.getElem?_eq_some_iff.1 HOP4.out).1 (nO (O + 1) (by omega) (by omega))).trans HOP4.out
  rw [HV.out] at hbox5
  have c65 : w5.cell? ⟨O, 6, none⟩ = some (.slice v.wa v.W.length v.wc) := hbox5.c6
  have f65 := hbox5.fz 6
  obtain ⟨hbox6, k6⟩ := hbox5.setW wa' wc' (v.W ++ [WV.mk b N k])
  have HL6 : Hid _ := L5.set (X := O) (by have := HO.out; omega) (by omega) k6
  have hres6 := (k6.block (O + 2) (Array.getElem?_eq_some_iff.1 hres5).1 (show ¬ O + 2 = O by omega)).trans hres5
  have hop6 := (k6.block (O + 1) (Array.getElem?_eq_some_iff.1 hop5).1 (show ¬ O + 1 = O by omega)).trans hop5
  obtain ⟨lw, hlw⟩ : ∃ lw, lw = (v.W ++ [WV.mk b N k]).length := ⟨_, rfl⟩
  have elw : lw = v.W.length + 1 := by rw [hlw]; simp
  obtain ⟨w6, hw6⟩ : ∃ w6, w6 = w5.setCell ⟨O, 6, none⟩ (.slice wa' lw wc') := ⟨_, rfl⟩
  rw [← hlw, ← hw6] at hbox6 hres6 hop6 HL6
  have HBX6 : Hid _ := hbox6
  have HRS6 : Hid _ := hres6
  have HOP6 : Hid (w6.heap[O + 1]? = some (.cells C 68 (0, 0))) := hop6
  have HW6 : Hid (w5.setCell ⟨O, 6, none⟩ (.slice wa' lw wc') = w6) := hw6.symm
  have HLW : Hid (lw = v.W.length + 1) := elw
  rw [show (v.W ++ [WV.mk b N k]).length = lw from hlw.symm]
  clear hbox6 hres6 hop6 hw6 hlw elw hop5 hres5 hbox5 nO hold k6 k5 L5 ho5 hg5 hF4 hB4 hown4 c6 hbox4 hres4
  go_wp2
  rw [HW6.out]
  refine MixH.start (fun x => SdAt x O { v with wa := wa', wc := wc', W := v.W ++ [WV.mk b N k] } ∧ x.cell? ⟨O + 1, 2, none⟩ = some (.int .i64 i)) (by kernel_rfl) ?_
  obtain ⟨wA, hwA⟩ : ∃ wA, wA = w6.drew := ⟨_, rfl⟩
  obtain ⟨V2, hV2⟩ : ∃ V2 : SV, V2 = { v with wa := wa', wc := wc', W := v.W ++ [WV.mk b N k] } := ⟨_, rfl⟩
  have hS : SdAt wA O V2 ∧ wA.cell? ⟨O + 1, 2, none⟩ = some (.int .i64 i) := by
    rw [hwA, hV2]
    refine ⟨HBX6.out, ?_⟩
    have h := HOP6.out
    rw [HC.out] at h
    show w6.cell? _ = _
    simp [World.cell?, h, opC]
  have hresA : wA.heap[O + 2]? = some (.cells zS 29 (0, 0)) := by rw [hwA]; exact HRS6.out
  have HLA : Hid _ := HL6.out.below (Below.refl w6.heap.size w6).drew
  rw [← hwA] at HLA ⊢
  rw [← hV2]
  have HV2 : Hid _ := hV2
  clear hwA hV2 HBX6 HRS6 HW6 c65 f65
  refine MixH.takes [false, false, true, true, false, true, true] 7 (by kernel_rfl) (by kernel_rfl) (by decide) (by kernel_rfl) hS (fun K hK => ?_)
  simp only [Mix.pick]
  repeat (go_big_quiet_step (fail))
  refine wpQuiet_nil (hK _ ?_)
  clear hK K
  refine MixH.take 6 0 _ (.agg V2.cells) rfl (by kernel_rfl) (by kernel_rfl) (by kernel_rfl) (by kernel_rfl) (yields_sd (.tmp 2) rfl O V2 rfl rfl (fun _ h => h.1)) hS (fun a' ha => ?_)
  simp only [Act.put, List.setIfInBounds_toArray, List.set_cons_succ, List.set_cons_zero] at ha
  subst ha
  refine MixH.take 5 1 _ (.agg V2.cells) rfl (by kernel_rfl) (by kernel_rfl) (by kernel_rfl) (by kernel_rfl) (yields_sd (.tmp 2) rfl O V2 rfl rfl (fun _ h => h.1)) hS (fun a' ha => ?_)
  simp only [Act.put, List.setIfInBounds_toArray, List.set_cons_succ, List.set_cons_zero] at ha
  subst ha
  refine MixH.take 4 4 _ (.int .i64 (k : Nat)) rfl (by kernel_rfl) (by kernel_rfl) (by kernel_rfl) (by kernel_rfl) (yields_int (.tmp 182) rfl (O + 1) 2 (.int .i64 (k : Nat)) rfl rfl (fun _ h => by rw [h.2, HIK.out])) hS (fun a' ha => ?_)
  simp only [Act.put, List.setIfInBounds_toArray, List.set_cons_succ, List.set_cons_zero] at ha
  subst ha
  refine MixH.take 3 7 _ (.int .i64 (N : Nat)) rfl (by kernel_rfl) (by kernel_rfl) (by kernel_rfl) (by kernel_rfl) (yields_int (.tmp 185) rfl O 3 (.int .i64 (N : Nat)) rfl rfl (fun _ h => by have h3 := h.1.c3; rw [HV2.out] at h3; rw [← HRZ.out]; exact h3)) hS (fun a' ha => ?_)
  simp only [Act.put, List.setIfInBounds_toArray, List.set_cons_succ, List.set_cons_zero] at ha
  subst ha
  refine MixH.one [false, false, false, false, false, false, false, false, true] 2 8 _ rfl rfl (by kernel_rfl) (by kernel_rfl) (fun K hK => ?_)
  simp only [Mix.pick]
  obtain ⟨hl, d, d1, d2, d3, d4, d5⟩ := HLA.out.ok.win HF.out.1 HF.out.2.1 HF.out.2.2
  have QR : Hid (Calls Try.prog 66 #[.agg V2.cells, .slice (some ⟨b, 0, none⟩) N N, .int .i64 k, .int .i64 (N : Nat)] wA fun e w' => e = .returned (.bool true) ∧ Below wA.heap.size wA w') := by
    rw [HV2.out]
    exact right_any wA _ HLA.out.ok.ref k N b d hl d2 d1 d3 d4 d5
  clear d1 d2 d3 d4 d5
  go_wp2_with fail
  refine Calls.mono QR.out ?_
  rintro e wB ⟨rfl, hqB⟩
  have HLB : Hid _ := HLA.out.below hqB
  have hresB := (hqB.block (O + 2) (Array.getElem?_eq_some_iff.1 hresA).1).trans hresA
  replace hS : SdAt wB O V2 ∧ wB.cell? ⟨O + 1, 2, none⟩ = some (.int .i64 i) := ⟨hS.1.below hqB, (hqB.cell (p := ⟨O + 1, 2, none⟩) (World.block_lt_of_cell? _ _ hS.2)).trans hS.2⟩
  clear QR hqB HLA hresA
  go_wp2
  refine ⟨rfl, hK _ _ hS ?_⟩
  clear hK K
  refine MixH.one [false, false, false, false, false, false, false, false, false, true] 1 9 _ rfl rfl (by kernel_rfl) (by kernel_rfl) (fun K hK => ?_)
  simp only [Mix.pick]
  refine wpList_store_sd (.tmp 4) (.tmp 179) rfl rfl (O + 2) zS rfl V2 rfl rfl hresB rfl ?_
  intro w7 hR7 k7
  have L7 := HLB.out.set (X := O + 2) (by have := HO.out; omega) (by omega) k7
  have HR7 : Hid _ := hR7
  have HL7 : Hid _ := L7
  replace hS : SdAt w7 O V2 ∧ w7.cell? ⟨O + 1, 2, none⟩ = some (.int .i64 i) := ⟨hS.1.ch k7 (show ¬ O = O + 2 by omega), k7.cell hS.2 (show ¬ O + 1 = O + 2 by omega)⟩
  clear L7 k7 hR7 hresB
  go_wp2
  refine ⟨rfl, hK _ _ hS ?_⟩
  clear hK K
  refine MixH.takes [false, false, false, false, false, false, false, false, false, false, true] 0 (by kernel_rfl) (by kernel_rfl) (by decide) (by kernel_rfl) hS (fun K hK => ?_)
  simp only [Mix.pick]
  repeat (go_big_quiet_step (fail))
  refine wpQuiet_nil (hK _ ?_)
  clear hK K
  refine MixH.done (by kernel_rfl) ?_
  go_wp2
  (try simp only [Exit.inBlock, Exit.then])
  refine bodyPost_ret (results_sd_tmp rfl _ _ (O + 2) V2 rfl HR7.out) rfl ?_
  exact ⟨_, by rw [HV2.out]; rfl, HL7.out.fin HN2.out (by show (v.W ++ _).length ≤ _; simp), by show (v.W ++ _).length = _; simp⟩
end Go.Proofs.Ythknkfggpdhdbaa
namespace Go.Proofs.Ythknkfggpdhdbaa
open Go.RowKit

theorem TwinR.places {s : PS} {r : RV} (h : TwinR s r) : r.L.map RB.pl = (List.range s.pool).map s.pl := by
  apply List.ext_getElem?
  intro j
  rw [List.getElem?_map, List.getElem?_map]
  by_cases hj : j < s.pool
  · rw [h.pl j hj]; simp [hj]
  · rw [List.getElem?_eq_none (by rw [h.len]; omega), List.getElem?_eq_none (by simp; omega)]; rfl
def full9 (k : Nat) (l : List Nat) : List Nat := List.replicate k 9 ++ l.drop k
theorem full9_set (k : Nat) (l : List Nat) (h : k < l.length) : (full9 k l).set k 9 = full9 (k + 1) l := by
  unfold full9
  rw [List.set_append_right _ _ (by simp), List.length_replicate, Nat.sub_self, List.drop_eq_getElem_cons h, List.set_cons_zero, List.replicate_succ']
  simp
theorem full9_at (k : Nat) (l : List Nat) (h : k < l.length) : (full9 k l)[k]? = some (l.getD k 0) := by
  unfold full9
  rw [List.getElem?_append_right (by simp)]
  simp [List.getD, h]
/-- the two lists of places while they are held against one another -/
structure Td (w wr : World) (N g gm k : Nat) (X : List Nat) : Prop where
  l : wr.ownsRow w.heap.size 3 1 (.slice (some ⟨g, 0, none⟩) N N) N (nV (full9 k X))
  m : ∀ j, j < N → wr.cell? ⟨gm, j, none⟩ = some (.int .i64 (X.getD j 0 : Nat))
  ne : gm ≠ g
  bel : Below w.heap.size w wr
theorem Td.step {w wr : World} {N g gm k : Nat} {X : List Nat} (h : Td w wr N g gm k X) (hX : X.length = N) (hk : k < N) : wr.cell? ⟨g, k, none⟩ = some (.int .i64 (X.getD k 0 : Nat)) ∧ wr.frozen? ⟨g, k, none⟩ = false ∧ Td w (wr.setCell ⟨g, k, none⟩ (.int .i64 9)) N g gm (k + 1) X := by
  have hl := h.l
  refine ⟨?_, hl.frozenAt k, ?_⟩
  · rw [hl.cellAt k (by omega)]
    unfold nV
    rw [List.getElem?_map, full9_at k X (by omega)]
    rfl
  · obtain ⟨s1, s2⟩ := hl.stored k (.int .i64 9)
    have e : (nV (full9 k X)).set k (.int .i64 9) = nV (full9 (k + 1) X) := by
      rw [← full9_set k X (by omega)]; unfold nV; rw [List.map_set]; rfl
    rw [e] at s1
    have kk : Ch (fun q => q = g) wr (wr.setCell ⟨g, k, none⟩ (.int .i64 9)) := (Ch.refl _ wr).set _ _ rfl
    refine ⟨s1, fun j hj => kk.cell (h.m j hj) h.ne, h.ne, h.bel.trans (kk.below (fun q e => ?_) h.bel.size)⟩
    have e' : q = g := e
    have := (hl.lt g rfl).1
    omega
theorem Td.drew {w wr : World} {N g gm k : Nat} {X : List Nat} (h : Td w wr N g gm k X) : Td w wr.drew N g gm k X := ⟨owns_drew h.l, h.m, h.ne, h.bel.drew⟩
theorem Td.keep {w wr wr' : World} {N g gm k : Nat} {X : List Nat} (h : Td w wr N g gm k X) (hb : Below wr.heap.size wr wr') : Td w wr' N g gm k X :=
  ⟨(Ch.ofBelow (S := fun _ => False) hb).owns h.l (fun _ _ => id), fun j hj => (Ch.ofBelow (S := fun _ => False) hb).cell (h.m j hj) id, h.ne, h.bel.trans (hb.mono h.bel.size)⟩
set_option maxRecDepth 100000 in
set_option maxHeartbeats 3200000 in
theorem told_any (B : Nat) (w : World) (v : SV) (ok : SideOk B w v) :
    Calls Try.prog 11 #[.agg v.cells] w fun e w' => e = .returned (.bool true) ∧ Below w.heap.size w w' := by
  obtain ⟨W, hW⟩ : ∃ W, W = w.alloc (.cells v.cells 29) := ⟨_, rfl⟩
  obtain ⟨O, hO⟩ : ∃ O, O = w.heap.size := ⟨_, rfl⟩
  have hb0 : Below w.heap.size w W := by rw [hW]; exact (Below.refl _ _).alloc (Nat.le_refl _) _
  have hbox : SdAt W O v := by rw [hW, hO]; exact sdAt_new w v
  have HW : Hid (w.alloc (.cells v.cells 29) = W) := hW.symm
  have HO : Hid (w.heap.size = O) := hO.symm
  have c0 := hbox.c0
  have okW := ok.below hb0
  have Q1 : Hid _ := Places_any W v.P v.gb v.gf v.gr v.gt v.s okW.port
  obtain ⟨X, hX⟩ : ∃ X, X = (List.range v.s.pool).map v.s.pl := ⟨_, rfl⟩
  have HX : Hid (v.r.L.map RB.pl = X) := by show _ = _; rw [hX]; exact ok.twin.places
  obtain ⟨N, hN⟩ : ∃ N, N = v.s.pool := ⟨_, rfl⟩
  have HXL : Hid (X.length = N) := by show _ = _; rw [hX, hN]; simp
  have HRL : Hid (v.r.L.length = N) := by show _ = _; rw [hN]; exact ok.twin.len
  have hN1 : 0 < N := by rw [hN]; exact ok.port.p1
  have hN2 : N ≤ 8192 := by rw [hN]; exact ok.port.p2
  rw [← hX, ← hN] at Q1
  have HOK : Hid _ := okW
  have HB0 : Hid _ := hb0
  have HST : Hid (.agg (rstat v.r.L) = statV v.s.pl v.s.pool) := ok.twin.stat
  clear hW hO okW hX hN ok
  go_enter Try.func11, Try.ntmps11
  go_upto_region 1 with fail
  rw [HW.out, HO.out]
  go_wp2_with fail
  refine Calls.mono Q1.out ?_
  rintro e w1 ⟨g, rfl, ho1, hb1⟩
  have hbox1 := hbox.below hb1
  have ok1 := HOK.out.below hb1
  have Q2 : Hid _ := placesR_any w1 v.r ok1.ref
  rw [HX.out, HRL.out] at Q2
  have HO1 : Hid (w1.ownsRow W.heap.size 3 1 (.slice (some ⟨g, 0, none⟩) N N) N (nV X)) := ho1
  have HB1 : Hid (Below w.heap.size w w1) := HB0.out.trans (hb1.mono HB0.out.size)
  have HOK1 : Hid _ := ok1
  have HSW : Hid (w.heap.size ≤ W.heap.size) := HB0.out.size
  clear Q1 ho1 hb1 hbox c0 ok1 hb0
  go_wp2_with (first | (refine wpList_load_sr (.tmp 9) rfl O v rfl hbox1 rfl ?_))
  refine Calls.mono Q2.out ?_
  rintro e w2 ⟨u, rfl, ho2, hb2⟩
  obtain ⟨gm, cm, rfl⟩ := owns_pos ho2 hN1
  have hbox2 := hbox1.below hb2
  have HB2 : Hid (Below w.heap.size w w2) := HB1.out.trans (hb2.mono HB1.out.size)
  have HOK2 : Hid _ := HOK1.out.below hb2
  have T2 : Hid (Td w w2 N g gm 0 X) := by
    have o1 := (Ch.ofBelow (S := fun _ => False) hb2).owns HO1.out (fun _ _ => id)
    refine ⟨owns_mono (by rw [show full9 0 X = X by simp [full9]]; exact o1) HSW.out, fun j hj => ?_, fun e => ?_, HB2.out⟩
    · rw [ho2.cellAt j (by omega)]
      have hj' : j < X.length := by rw [HXL.out]; exact hj
      simp [nV, List.getD, hj']
    · have h1 := (ho2.lt gm rfl).1
      have h2 := (HO1.out.lt g rfl).2
      omega
  clear Q2 ho2 hb2 hbox1 HO1
  go_wp2
  refine MixH.start (fun x => SdAt x O v) (by kernel_rfl) ?_
  obtain ⟨wA, hwA⟩ : ∃ wA, wA = w2.drew := ⟨_, rfl⟩
  have hS : SdAt wA O v := by rw [hwA]; exact hbox2
  have TA : Hid (Td w wA N g gm 0 X) := by
    rw [hwA]
    have h := T2.out
    exact ⟨owns_drew h.l, h.m, h.ne, h.bel.drew⟩
  have HOKA : Hid _ := HOK2.out.below (Below.refl w2.heap.size w2).drew
  rw [← hwA] at HOKA ⊢
  clear hwA hbox2 T2 HOK2 HB2 HB1 HOK1
  refine MixH.takes [true, true, true, true, true, true] 8 (by kernel_rfl) (by kernel_rfl) (by decide) (by kernel_rfl) hS (fun K hK => ?_)
  simp only [Mix.pick]
  repeat (go_big_quiet_step (fail))
  refine wpQuiet_nil (hK _ ?_)
  clear hK K
  refine MixH.takes [false, false, false, false, false, false, true, false, false, true] 6 (by kernel_rfl) (by kernel_rfl) (by decide) (by kernel_rfl) hS (fun K hK => ?_)
  simp only [Mix.pick]
  repeat (go_big_quiet_step (fail))
  refine wpQuiet_nil (hK _ ?_)
  clear hK K
  refine MixH.take 5 7 _ (.pointer (some ⟨v.P, 0, none⟩)) rfl (by kernel_rfl) (by kernel_rfl) (by kernel_rfl) (by kernel_rfl) (yields_ptr (.tmp 18) rfl O 0 (.pointer (some ⟨v.P, 0, none⟩)) rfl rfl (fun _ h => SdAt.c0 h)) hS (fun a' ha => ?_)
  simp only [Act.put, List.setIfInBounds_toArray, List.set_cons_succ, List.set_cons_zero] at ha
  subst ha
  refine MixH.take 4 10 _ (.agg v.r.cells) rfl (by kernel_rfl) (by kernel_rfl) (by kernel_rfl) (by kernel_rfl) (yields_sr (.tmp 21) rfl O v rfl rfl (fun _ h => h)) hS (fun a' ha => ?_)
  simp only [Act.put, List.setIfInBounds_toArray, List.set_cons_succ, List.set_cons_zero] at ha
  subst ha
  refine MixH.one [false, false, false, false, false, false, false, false, true] 3 8 _ rfl rfl (by kernel_rfl) (by kernel_rfl) (fun K hK => ?_)
  simp only [Mix.pick]
  have QS : Hid _ := Stat_any wA v.P v.gb v.gf v.gr v.gt v.s HOKA.out.port (fun i hi => (HOKA.out.inv.pr i hi).2)
  unfold statV at QS
  go_wp2_with fail
  refine Calls.mono QS.out ?_
  rintro e wB ⟨rfl, hqB⟩
  replace hS := SdAt.below hS hqB
  have TB : Hid (Td w wB N g gm 0 X) := TA.out.keep hqB
  have HOKB : Hid _ := HOKA.out.below hqB
  clear QS hqB TA HOKA
  go_wp2
  refine ⟨rfl, hK _ _ hS ?_⟩
  clear hK K
  refine MixH.one [false, false, false, false, false, false, false, false, false, false, false, true] 2 11 _ rfl rfl (by kernel_rfl) (by kernel_rfl) (fun K hK => ?_)
  simp only [Mix.pick]
  have QS : Hid _ := statR_any wB v.r HOKB.out.ref
  rw [HST.out] at QS
  unfold statV at QS
  go_wp2_with fail
  refine Calls.mono QS.out ?_
  rintro e wC ⟨rfl, hqC⟩
  replace hS := SdAt.below hS hqC
  have TC : Hid (Td w wC N g gm 0 X) := TB.out.keep hqC
  clear QS hqC TB HOKB
  go_wp2
  refine ⟨rfl, hK _ _ hS ?_⟩
  clear hK K
  refine MixH.takes [false, false, false, false, false, false, false, false, false, false, false, false, true, true] 0 (by kernel_rfl) (by kernel_rfl) (by decide) (by kernel_rfl) hS (fun K hK => ?_)
  simp only [Mix.pick]
  repeat (go_big_quiet_step (fail))
  refine wpQuiet_nil (hK _ ?_)
  clear hK K
  refine MixH.done (by kernel_rfl) ?_
  go_wp2
  go_loopw [5] (fun ix wr => ∃ k : Nat, k ≤ N ∧ ix = .int .i64 k ∧ Hid (Td w wr N g gm k X)) (fun ix _ => N - (intOf ix).toNat)
  case atStart => exact ⟨0, Nat.zero_le _, rfl, TC⟩
  case round =>
    obtain ⟨k, hk, rfl, ST⟩ := hrel
    clear TC
    by_cases hlt : k < N
    · obtain ⟨cc, ff, NX⟩ := ST.out.step HXL.out hlt
      have cm' := ST.out.m k hlt
      obtain ⟨y, hy⟩ : ∃ y, y = X.getD k 0 := ⟨_, rfl⟩
      rw [← hy] at cc cm'
      have hq : ((y : Int) != (y : Int)) = false := by simp
      have HNX : Hid _ := (ST.out.drew.step HXL.out hlt).2.2
      clear NX ST hy
      go_wp2
      go_region
      go_wp2
      go_roundw
      case rel => exact ⟨k + 1, by omega, by go_num, HNX⟩
      case measure => simp [intOf]; omega
    · have hlt' : ¬ ((k : Int) < (N : Int)) := by omega
      have HB : Hid _ := ST.out.bel
      clear hlt ST
      go_wp2
      go_ret
      exact ⟨rfl, HB.out⟩
end Go.Proofs.Ythknkfggpdhdbaa
namespace Go.Proofs.Ythknkfggpdhdbaa
open Go.RowKit

section
variable {B : Nat} {x w1 w2 : World} {v : SV} {s1 : PS}
def ArvS (s s1 : PS) (fr : List Nat) : Prop := (aE s fr.length ≠ 0 ∧ s1 = s) ∨ (aE s fr.length = 0 ∧ ∃ (hk : s.filled < s.rx.length) (b : Nat), fr.length ≤ s.size ∧ s1 = s.arrived s.rx[s.filled] b fr)
theorem arrive_u (h : SideOk B x v) (a : Option Addr) (c : Nat) (fr : List Nat) (hseg : Seg .u8 x a (toI fr)) (h256 : ∀ y ∈ fr, y < 256) (hap : ∀ y, fr ≠ [] → a = some y → y.block ≠ v.P ∧ y.block ≠ v.gb) :
    Calls Try.prog 16 #[.pointer (some ⟨v.P, 0, none⟩), .slice a fr.length c] x fun e w1 => ∃ s1, e = .returned (.int .i64 (aE v.s fr.length)) ∧ ArvS v.s s1 fr ∧ Pt x w1 v s1 := by
  by_cases he : aE v.s fr.length = 0
  · have he' := he
    unfold aE at he'
    split at he'
    · cases he'
    · split at he'
      · cases he'
      · split at he'
        · cases he'
        · rename_i h1 h2 h3
          have hfl := h.inv.fl
          have hk : v.s.filled < v.s.rx.length := by omega
          have hlt := h.inv.rxlt _ (List.getElem_mem hk)
          refine (Arrive_yes x v.P v.gb v.gf v.gr v.gt v.s h.port a c fr hseg h256 hap (by omega) hk hlt).mono ?_
          rintro e w' ⟨b, rfl, hp, hc, ho⟩
          rw [he]
          refine ⟨_, rfl, .inr ⟨he, hk, b, by omega, rfl⟩, ⟨hp, h.inv.arrive hk (by omega), rfl, rfl, rfl, rfl, hc.mono (fun x hx e => e.elim (fun e => .inl e) (fun e => e.elim (fun e => .inr (.inl e)) (fun e => PB.b ho hlt hx e))), PB.upd rfl rfl ho hlt⟩, fun j d _ hd => bb_upd ho j d hd⟩
  · refine (Arrive_no x v.P v.gb v.gf v.gr v.gt v.s h.port a fr.length c he).mono ?_
    rintro e w' ⟨rfl, hb⟩
    exact ⟨_, rfl, .inl ⟨he, rfl⟩, Pt.none h hb⟩
theorem arriveR_u (h : SideOk B x v) (fa : Option Addr) (fc : Nat) (fr : List Nat) (hs : ArvS v.s s1 fr) (p : Pt x w1 v s1) (hseg : Seg .u8 w1 fa (toI fr)) (h256 : ∀ y ∈ fr, y < 256) (hn : v.r.now + 8192 ≤ 4611686018427387904) :
    Calls Try.prog 63 #[.agg v.r.cells, .slice fa fr.length fc] w1 fun e w2 => ∃ r2, e = .returned (.tuple #[.agg r2.cells, .int .i64 (aE v.s fr.length)]) ∧ Nx w1 w2 v s1 r2 := by
  obtain ⟨r1, a1⟩ := h.refp p.pl
  refine (arriveR_any w1 v.r r1 a1 (by omega) fa fc fr hseg h256).mono ?_
  rintro e w2 hc
  rw [h.twin.aR h.inv.fl] at hc
  rcases hs with ⟨h1, rfl⟩ | ⟨h1, hk, b, hf, rfl⟩
  · rcases hc with ⟨_, rfl, hb2⟩ | ⟨_, _, _, _, _, _, _, _, h5, _⟩
    · exact ⟨_, rfl, Nx.same h p hb2⟩
    · exact absurd h5 h1
  · rcases hc with ⟨h5, _⟩ | ⟨k, g, cl, g', cl', cv, av, hkl, _, h6, rfl, ok2, hav, hg, _, hb2⟩
    · exact absurd h1 h5
    · have hi : v.s.rx[v.s.filled] < v.r.L.length := by rw [h.twin.len]; exact h.inv.rxlt _ (List.getElem_mem hk)
      have e3 : v.s.rx[v.s.filled] = k := by
        have := (h.twin.arrived hk rfl hi fr hf av cv b g cl g' cl').1
        rw [this] at h6
        omega
      have tw := (h.twin.arrived hk e3 hkl fr hf av cv b g cl g' cl').2
      rw [e3]
      exact ⟨_, by rw [h1], Nx.ptmv ok2 hkl hg (fun q _ ⟨a, ha, e⟩ => .inr (by rw [← e]; exact hav a ha)) tw hb2⟩
end
theorem bx2_new (w : World) (v : SV) : SdAt ((w.alloc (.cells v.cells 29)).alloc (.cells zS 29)) w.heap.size v ∧ ((w.alloc (.cells v.cells 29)).alloc (.cells zS 29)).heap[w.heap.size + 1]? = some (.cells zS 29 (0, 0)) ∧ Below w.heap.size w ((w.alloc (.cells v.cells 29)).alloc (.cells zS 29)) ∧ ((w.alloc (.cells v.cells 29)).alloc (.cells zS 29)).heap.size = w.heap.size + 2 := by
  refine ⟨?_, ?_, ((Below.refl _ _).alloc (Nat.le_refl _) _).alloc (by simp) _, by simp⟩
  · unfold SdAt
    rw [heap_alloc_old _ _ (by simp)]
    exact sdAt_new w v
  · have := heap_alloc_new (w.alloc (.cells v.cells 29)) (.cells zS 29)
    simpa using this
set_option maxRecDepth 100000 in
set_option maxHeartbeats 6400000 in
theorem arrived_any (B : Nat) (w : World) (v : SV) (ok : SideOk B w v) (hnow : v.r.now + 8192 ≤ 4611686018427387904) (a : Option Addr) (c : Nat) (l : List Nat) (hs : Seg .u8 w a (toI l)) (h256 : ∀ y ∈ l, y < 256) (hl : l.length ≤ 140737488355000) (hop : ∀ y, l ≠ [] → a = some y → ¬ v.all y.block) :
    Calls Try.prog 55 #[.agg v.cells, .slice a l.length c] w fun e w' => ∃ v', e = .returned (.tuple #[.agg v'.cells, .bool true]) ∧ Stepped B w w' v v' ∧ v'.W = v.W ∧ ArvS v.s v'.s l := by
  obtain ⟨W, hW⟩ : ∃ W, W = (w.alloc (.cells v.cells 29)).alloc (.cells zS 29) := ⟨_, rfl⟩
  obtain ⟨O, hO⟩ : ∃ O, O = w.heap.size := ⟨_, rfl⟩
  obtain ⟨hbox, hres, hb0, hsz⟩ := bx2_new w v
  rw [← hW] at hbox hres hb0 hsz
  have HB0 : Hid (Below w.heap.size w W) := hb0
  rw [← hO] at hbox hres hsz
  have HW : Hid ((w.alloc (.cells v.cells 29)).alloc (.cells #[.pointer none, .int .i64 0, .int .i64 0, .int .i64 0, .slice none 0 0, .int .i64 0, .slice none 0 0] 29) = W) := hW.symm
  have HO : Hid (w.heap.size = O) := hO.symm
  have HSZ : Hid (W.heap.size = O + 2) := hsz
  have HOK : Hid _ := ok
  have Q0 : Hid _ := wide_any a c l W (hs.old hb0) hl
  have HSG : Hid (Seg .u8 w a (toI l)) := hs
  have HBOX : Hid (SdAt W O v) := hbox
  have HRES : Hid _ := hres
  have H256 : Hid _ := h256
  have HOP : Hid _ := hop
  obtain ⟨n, hn⟩ : ∃ n, n = l.length := ⟨_, rfl⟩
  rw [← hn] at Q0 hl ⊢
  have HN : Hid (l.length = n) := hn.symm
  clear hW hO hsz hs hbox hres hb0 ok h256 hop hn
  go_enter Try.func55, Try.ntmps55
  go_upto_region 1 with fail
  rw [HW.out, HO.out]
  go_wp2_with fail
  refine Calls.mono Q0.out ?_
  rintro e w0 ⟨g, cp, rfl, ho0, hq0⟩
  have HB : Hid (Below w.heap.size w w0) := HB0.out.trans (hq0.mono HB0.out.size)
  have HL : Hid (Loc B w0.heap.size w w0 v v) := Loc.start HOK.out HB.out
  have hbox0 := HBOX.out.below hq0
  have HR0 : Hid (w0.heap[O + 1]? = some (.cells zS 29 (0, 0))) := (hq0.block (O + 1) (Array.getElem?_eq_some_iff.1 HRES.out).1).trans HRES.out
  have HO0 : Hid (w0.ownsRow W.heap.size 5 1 (.slice (some ⟨g, 0, none⟩) (n + 3) cp) (n + 3) ((toI (l ++ [91, 92, 93])).map (Value.int .u8))) := ho0
  obtain ⟨_, _, e0, _, _, hcp, hcp'⟩ := owns_seg ho0
  have e1 := (Value.slice.inj e0).2.2
  subst e1
  have hcp2 : (n : Int) ≤ (cp : Int) := by omega
  have hcp3 : n ≤ cp := by omega
  have HG : Hid (O + 2 ≤ g ∧ g < w0.heap.size) := ⟨by rw [← HSZ.out]; exact (ho0.lt g rfl).1, (ho0.lt g rfl).2⟩
  have hwr : IntKind.i64.wrap ((n : Int) + 3) = (n : Int) + 3 := i64_mid _ (by omega) (by omega)
  clear Q0 hq0 ho0 HBOX HRES HB0 HW e0
  go_wp2
  refine MixH.start (fun x => SdAt x O v) (by kernel_rfl) ?_
  obtain ⟨wA, hwA⟩ : ∃ wA, wA = w0.drew := ⟨_, rfl⟩
  have hS : SdAt wA O v := by rw [hwA]; exact hbox0
  have HSA : Hid (wA.heap.size = w0.heap.size) := by rw [hwA]; rfl
  have HRA : Hid (wA.heap[O + 1]? = some (.cells zS 29 (0, 0))) := by rw [hwA]; exact HR0.out
  have HOA : Hid (wA.ownsRow W.heap.size 5 1 (.slice (some ⟨g, 0, none⟩) (n + 3) cp) (n + 3) ((toI (l ++ [91, 92, 93])).map (Value.int .u8))) := by rw [hwA]; exact owns_drew HO0.out
  have HLA : Hid _ := HL.out.below (Below.refl w0.heap.size w0).drew
  have HBA : Hid (Below w.heap.size w wA) := by rw [hwA]; exact HB.out.drew
  rw [← hwA] at HLA ⊢
  clear hwA hbox0 HO0 HR0 HL HB
  refine MixH.takes [true, false, true, true, true, true] 3 (by kernel_rfl) (by kernel_rfl) (by decide) (by kernel_rfl) hS (fun K hK => ?_)
  simp only [Mix.pick]
  repeat (go_big_quiet_step (fail))
  refine wpQuiet_nil (hK _ ?_)
  clear hK K
  refine MixH.take 2 1 _ (.pointer (some ⟨v.P, 0, none⟩)) rfl (by kernel_rfl) (by kernel_rfl) (by kernel_rfl) (by kernel_rfl) (yields_ptr (.tmp 14) rfl O 0 (.pointer (some ⟨v.P, 0, none⟩)) rfl rfl (fun _ h => SdAt.c0 h)) hS (fun a' ha => ?_)
  simp only [Act.put, List.setIfInBounds_toArray, List.set_cons_succ, List.set_cons_zero] at ha
  subst ha
  refine MixH.one [false, false, false, false, false, false, true] 1 6 _ rfl rfl (by kernel_rfl) (by kernel_rfl) (fun K hK => ?_)
  simp only [Mix.pick]
  have QA : Hid _ := arrive_u HLA.out.ok (some ⟨g, 0, none⟩) cp l (by
    obtain ⟨_, _, e1, sg, _⟩ := owns_seg HOA.out
    have e2 := (Value.slice.inj e1).1
    rw [← e2] at sg
    exact seg_pre sg) H256.out (fun y _ hy => by
    have e3 := Option.some.inj hy
    subst e3
    have hg := HG.out
    have hO := HO.out
    have hold := HLA.out.old
    have h1 := hold v.P (.inl (.inl (.inl rfl)))
    have h2 := hold v.gb (.inl (.inl (.inr (.inl rfl))))
    show g ≠ v.P ∧ g ≠ v.gb
    omega)
  rw [HN.out] at QA
  go_wp2_with fail
  refine Calls.mono QA.out ?_
  rintro e w1 ⟨s1, rfl, hk, hp⟩
  have hold := HLA.out.old
  have nPB : ∀ q, w.heap.size ≤ q → ¬ v.pb q := fun q h1 h2 => by have := hold q (.inl (.inl h2)); omega
  have hO := HO.out
  have hg := HG.out
  replace hS : SdAt w1 O v := SdAt.ch hS hp.pl.ch (nPB O (by omega))
  have HRB : Hid (w1.heap[O + 1]? = some (.cells zS 29 (0, 0))) := (hp.pl.ch.block (O + 1) (Array.getElem?_eq_some_iff.1 HRA.out).1 (nPB (O + 1) (by omega))).trans HRA.out
  have HOB : Hid (w1.ownsRow W.heap.size 5 1 (.slice (some ⟨g, 0, none⟩) (n + 3) cp) (n + 3) ((toI (l ++ [91, 92, 93])).map (Value.int .u8))) := hp.pl.ch.owns HOA.out (fun q hq => by
    have hq' : q = g := by simpa [Value.ownBlock] using hq.symm
    exact nPB q (by omega))
  have HSB : Hid (Seg .u8 w1 a (toI l)) := hp.pl.ch.seg (HSG.out.old HBA.out) (fun y hy hya e => HOP.out y (fun e2 => hy (by rw [e2]; rfl)) hya (.inl (.inl e)))
  have HP : Hid _ := hp
  have HK : Hid (ArvS v.s s1 l) := hk
  obtain ⟨E, hE⟩ : ∃ E, E = aE v.s n := ⟨_, rfl⟩
  rw [← hE]
  have HE : Hid (aE v.s n = E) := hE.symm
  clear QA hp hk hold nPB hO hg HOA HRA hE
  go_wp2
  refine ⟨rfl, hK _ _ hS ?_⟩
  clear hK K
  refine MixH.takes [false, false, false, false, false, false, false, true] 0 (by kernel_rfl) (by kernel_rfl) (by decide) (by kernel_rfl) hS (fun K hK => ?_)
  simp only [Mix.pick]
  repeat (go_big_quiet_step (fail))
  refine wpQuiet_nil (hK _ ?_)
  clear hK K
  refine MixH.done (by kernel_rfl) ?_
  have Q2 : Hid _ := arriveR_u HLA.out.ok a c l HK.out HP.out HSB.out H256.out hnow
  rw [HN.out, HE.out] at Q2
  have hbox1 := hS
  clear hS
  go_wp2_with (first | (refine wpList_load_sr (.tmp 22) rfl O v rfl hbox1 rfl ?_))
  refine Calls.mono Q2.out ?_
  rintro e w2 ⟨r2, rfl, nx⟩
  have HL2 : Hid _ := HLA.out.go (by rw [HSA.out]; exact Nat.le_refl _) HP.out nx
  have HN2 : Hid _ := nx.now
  have HBX2 : Hid (SdAt w2 O v) := hbox1.below nx.bel
  have HRB2 : Hid (w2.heap[O + 1]? = some (.cells zS 29 (0, 0))) := (nx.bel.block (O + 1) (Array.getElem?_eq_some_iff.1 HRB.out).1).trans HRB.out
  have HOB2 : Hid (w2.ownsRow W.heap.size 5 1 (.slice (some ⟨g, 0, none⟩) (n + 3) cp) (n + 3) ((toI (l ++ [91, 92, 93])).map (Value.int .u8))) := (Ch.ofBelow (S := fun _ => False) nx.bel).owns HOB.out (fun _ _ => id)
  have HSB2 : Hid (Seg .u8 w2 a (toI l)) := HSB.out.old nx.bel
  have hz := pz w2
  clear Q2 hbox1 nx HRB HOB HSB
  go_wp2_with (first | (refine wpList_store_rp (.tmp 8) (.tmp 26) rfl rfl w2.heap.size rz r2 rfl rfl hz rfl ?_))
  intro w3 hR3 k3
  have HL3 : Hid _ := HL2.out.put _ rfl k3
  have h0a : Below w2.heap.size w2 (w2.alloc (.cells #[.int .i64 0, .int .i64 0, .int .i64 0, .slice none 0 0, .int .i64 0] 26)) := (Below.refl _ _).alloc (Nat.le_refl _) _
  have K23 : Hid (Ch (fun q => q = O ∨ w2.heap.size ≤ q) w2 w3) := (Ch.ofBelow (S := fun q => q = O ∨ w2.heap.size ≤ q) h0a).trans k3 (fun q _ e => .inr (by have e' : q = w2.heap.size := e; omega))
  have hlt2 := (Array.getElem?_eq_some_iff.1 HRB2.out).1
  have hbox3 : SdAt w3 O v := (HBX2.out.below h0a).ch k3 (show ¬ O = w2.heap.size by omega)
  clear h0a k3 hz
  go_wp2_with (first | (refine wpList_load_rp (.tmp 8) rfl w2.heap.size r2 rfl hR3 rfl ?_) | (refine wpList_store_sr (.tmp 29) (.tmp 28) rfl rfl O v r2 rfl rfl hbox3 rfl ?_))
  intro w4 hbox4 k4
  have hg0 := HG.out
  have hA0 := HLA.out.hF
  have HL4 : Hid _ := HL3.out.set (X := O) (by have := HO.out; omega) (by omega) k4
  have K24 : Hid (Ch (fun q => q = O ∨ w2.heap.size ≤ q) w2 w4) := K23.out.trans k4 (fun q _ e => .inl e)
  have HRB4 : Hid (w4.heap[O + 1]? = some (.cells zS 29 (0, 0))) := (K24.out.block (O + 1) hlt2 (by omega)).trans HRB2.out
  have HOB4 : Hid (w4.ownsRow W.heap.size 5 1 (.slice (some ⟨g, 0, none⟩) (n + 3) cp) (n + 3) ((toI (l ++ [91, 92, 93])).map (Value.int .u8))) := K24.out.owns HOB2.out (fun q hq e => by
    have hq' : q = g := by simpa [Value.ownBlock] using hq.symm
    have := (HOB2.out.lt g rfl).2
    omega)
  have HSB4 : Hid (Seg .u8 w4 a (toI l)) := K24.out.seg HSB2.out (fun y hy hya e => by
    rcases HSG.out.lt with h0 | ⟨b0, off, e0, hb0⟩
    · exact hy (List.eq_nil_of_length_eq_zero h0)
    · rw [hya] at e0
      have e1 := Option.some.inj e0
      subst e1
      have hO := HO.out
      simp only at e hb0
      omega)
  obtain ⟨V, hV⟩ : ∃ V : SV, V = { v with r := r2 } := ⟨_, rfl⟩
  rw [← hV] at hbox4
  have HV : Hid (V = { v with r := r2 }) := hV
  have HBX4 : Hid (SdAt w4 O V) := hbox4
  have Q3 : Hid _ := num_any E w4
  have hEE : (E == E) = true := by simp
  have Q4 : Hid _ := kept_yes g cp a c l w4 (by
    obtain ⟨_, _, e1, sg, _⟩ := owns_seg HOB4.out
    have e2 := (Value.slice.inj e1).1
    rw [e2]; exact sg) HSB4.out H256.out (by rw [HN.out]; exact hl) (by rw [HN.out]; exact hcp)
  rw [HN.out] at Q4
  clear hV hbox3 hR3 k4 K23 HBX2 HRB2 HOB2 HSB2 hg0 hA0 hlt2 hbox4
  go_wp2_with fail
  refine Calls.mono Q3.out ?_
  rintro e wN ⟨rfl, rfl⟩
  clear Q3
  go_wp2_with fail
  refine Calls.mono Q4.out ?_
  rintro e wN ⟨rfl, rfl⟩
  clear Q4
  obtain ⟨M, hM⟩ : ∃ M, M = n + 3 := ⟨_, rfl⟩
  rw [← hM] at HOB4 ⊢
  have hM2 : M ≤ 140737488355003 := by omega
  clear hM
  go_wp2
  go_loopw [11] (fun ix wr => ∃ (k : Nat) (l' : List Int), k ≤ M ∧ ix = .int .i64 k ∧ Hid (Loc B w0.heap.size w wr v { v with s := s1, r := r2 } ∧ SdAt wr O V ∧ wr.heap[O + 1]? = some (.cells zS 29 (0, 0)) ∧ wr.ownsRow W.heap.size 5 1 (.slice (some ⟨g, 0, none⟩) M cp) M (l'.map (Value.int .u8)))) (fun ix _ => M - (intOf ix).toNat)
  case atStart => exact ⟨0, toI (l ++ [91, 92, 93]), Nat.zero_le _, rfl, HL4.out, HBX4.out, HRB4.out, HOB4.out⟩
  case round =>
    obtain ⟨k, l', hk, rfl, ST⟩ := hrel
    clear HL4 HBX4 HRB4 HOB4
    by_cases hlt : k < M
    · obtain ⟨g', hg', z, cc, ff, NX⟩ := xor_step ST.out.2.2.2 k hlt
      have hg2 : g' = g := by simpa using hg'.symm
      subst hg2
      have HNX : Hid _ := NX
      clear NX hg'
      go_wp2
      go_roundw
      case rel =>
        obtain ⟨n1, n2⟩ := HNX.out (.int .u8 (bits .xor .u8 z 255)) _ rfl
        have hg := HG.out
        have hO := HO.out
        refine ⟨k + 1, _, by omega, by go_num, ST.out.1.free (by omega) (fun hq => ?_) n2, ST.out.2.1.ch n2 (show ¬ O = g' by omega), (n2.block (O + 1) (Array.getElem?_eq_some_iff.1 ST.out.2.2.1).1 (show ¬ O + 1 = g' by omega)).trans ST.out.2.2.1, n1⟩
        rcases ST.out.1.new g' hq with h1 | h1
        · have := ST.out.1.old g' h1; omega
        · omega
      case measure => simp [intOf]; omega
    · have hlt' : ¬ ((k : Int) < (M : Int)) := by omega
      have hboxr := ST.out.2.1
      have hresr := ST.out.2.2.1
      have HLr : Hid _ := ST.out.1
      clear hlt ST
      go_wp2_with (first | (refine wpList_load_sd (.tmp 2) rfl O V rfl hboxr rfl ?_) | (refine wpList_store_sd (.tmp 4) (.tmp 53) rfl rfl (O + 1) zS rfl V rfl rfl hresr rfl ?_))
      intro w5 hR5 k5
      have HR5 : Hid (SdAt w5 (O + 1) V) := hR5
      have HL5 : Hid _ := HLr.out.set (X := O + 1) (by have := HO.out; omega) (by have := HG.out; omega) k5
      clear k5 hR5 hboxr hresr
      go_wp2
      (try simp only [Exit.inBlock, Exit.then])
      refine bodyPost_ret (results_sd_tmp rfl _ _ (O + 1) V rfl HR5.out) rfl ?_
      exact ⟨_, by rw [HV.out]; rfl, HL5.out.fin HN2.out (Nat.le_succ _), rfl, HK.out⟩
end Go.Proofs.Ythknkfggpdhdbaa
namespace Go.Proofs.Ythknkfggpdhdbaa.MixH
open Go.Proofs.Ythknkfggpdhdbaa.Mix
/-- one of two may come up -/
theorem pair {P : Program} {l : List Oper} {Q : Exit → Act → World → Prop} {S : World → Prop} {F : Nat} {listed : Array Bool} {a : Act} {w : World} (fs1 fs2 : List Bool) (fuel : Nat) (i j : Nat) (o1 o2 : Oper) (ho1 : pick fs1 l = [o1]) (ho2 : pick fs2 l = [o2]) (hi : l[i]? = some o1) (hj : l[j]? = some o2) (hr : Region.ready .any l.toArray listed = [i, j]) (hF : F = fuel + 1)
    (h1 : ∀ K : Act → World → Prop, (∀ a' w', S w' → wpAnyH P .any l.toArray (only Q) S fuel (listed.setIfInBounds i true) a' w' → K a' w') → wpList P l.toArray (only fun _ => K) (pick fs1 l) a w)
    (h2 : ∀ K : Act → World → Prop, (∀ a' w', S w' → wpAnyH P .any l.toArray (only Q) S fuel (listed.setIfInBounds j true) a' w' → K a' w') → wpList P l.toArray (only fun _ => K) (pick fs2 l) a w) : wpAnyH P .any l.toArray (only Q) S F listed a w := by
  subst hF
  refine wpAnyH_all hr (by simp) fun m hm => ?_
  simp only [List.mem_cons, List.not_mem_nil, or_false] at hm
  rcases hm with rfl | rfl
  · have h0 := h1 _ (fun _ _ hs h => (⟨hs, h⟩ : _ ∧ _))
    rw [ho1] at h0
    have hi' : l.toArray[m]? = some o1 := by simpa using hi
    unfold wpOp
    simp only [hi']
    unfold wpList at h0
    split
    · rename_i hw
      rw [if_pos hw] at h0
      rcases h0 with h0 | ⟨_, h0⟩
      · exact .inl (wp_only (fun a w h => h.2) h0)
      · exact absurd h0 (no_out _)
    · rename_i hw
      rw [if_neg hw] at h0
      exact h0.2
  · have h0 := h2 _ (fun _ _ hs h => (⟨hs, h⟩ : _ ∧ _))
    rw [ho2] at h0
    have hi' : l.toArray[m]? = some o2 := by simpa using hj
    unfold wpOp
    simp only [hi']
    unfold wpList at h0
    split
    · rename_i hw
      rw [if_pos hw] at h0
      rcases h0 with h0 | ⟨_, h0⟩
      · exact .inl (wp_only (fun a w h => h.2) h0)
      · exact absurd h0 (no_out _)
    · rename_i hw
      rw [if_neg hw] at h0
      exact h0.2
end Go.Proofs.Ythknkfggpdhdbaa.MixH
namespace Go.Proofs.Ythknkfggpdhdbaa
open Go.RowKit

theorem flat_at : ∀ (W : List WV) (k j : Nat) (hk : k < W.length), j < 2 → (W.flatMap WV.cells)[k * 2 + j]? = (W[k]'hk).cells[j]?
  | [], k, _, hk, _ => by simp at hk
  | y :: W, 0, j, _, hj => by
    simp only [List.flatMap_cons, Nat.zero_mul, Nat.zero_add, List.getElem_cons_zero]
    rw [List.getElem?_append_left (by simp [WV.cells]; omega)]
  | y :: W, k + 1, j, hk, hj => by
    simp only [List.flatMap_cons, List.getElem_cons_succ]
    rw [List.getElem?_append_right (by simp [WV.cells]; omega), ← flat_at W k j (by simpa using hk) hj]
    congr 1
    simp [WV.cells]
    omega
/-- the window k as it lies in memory -/
theorem SideOk.winAt {B : Nat} {w : World} {v : SV} (h : SideOk B w v) (k : Nat) (hk : k < v.W.length) : ∃ gw, v.wa = some ⟨gw, 0, none⟩ ∧ ∀ w', Below w.heap.size w w' → w'.rangeAt gw (k * 2) (v.W[k]'hk).cells := by
  rcases h.own.2 with ⟨_, h0⟩ | ⟨g, cap, cur, e, _⟩
  · omega
  have ea : v.wa = some ⟨g, 0, none⟩ := (Value.slice.inj e).1
  refine ⟨g, ea, fun w' hb j u hu => ?_⟩
  have hj : j < 2 := by have := (List.getElem?_eq_some_iff.1 hu).1; simpa [WV.cells] using this
  have hown := (h.below hb).own
  rw [ea] at hown
  rw [hown.cellAt (k * 2 + j) (by omega), flat_at v.W k j hk hj]
  exact hu
theorem Try.sizeWin : (Try.prog.info? 117).map (·.size) = some 2 := by kernel_rfl
/-- a window in a box of its own -/
def WnAt (w : World) (A : Nat) (y : WV) : Prop := w.heap[A]? = some (.cells y.cells.toArray 117 (0, 0))
theorem WnAt.ch {S : Nat → Prop} {w w' : World} {A : Nat} {y : WV} (h : WnAt w A y) (k : Ch S w w') (hS : ¬ S A) : WnAt w' A y := (k.block A (Array.getElem?_eq_some_iff.1 h).1 hS).trans h
theorem WnAt.c0 {w : World} {A : Nat} {y : WV} (h : WnAt w A y) : w.cell? ⟨A, 0, none⟩ = some (.slice (some ⟨y.b, 0, none⟩) y.n y.n) := by unfold WnAt at h; simp [World.cell?, h, WV.cells]
theorem WnAt.c1 {w : World} {A : Nat} {y : WV} (h : WnAt w A y) : w.cell? ⟨A, 1, none⟩ = some (.int .i64 y.i) := by unfold WnAt at h; simp [World.cell?, h, WV.cells]
theorem wpList_store_wn {ops : Array Oper} {rest : List Oper} {o : Oper} {a : Act} {w : World} {Q : Exit → Act → World → Prop} (x z : Operand) (ho : o.op = .store 117 x z) (hd : o.dst = none) (A : Nat) (y : WV) (hx : a.eval x = .pointer (some ⟨A, 0, none⟩)) (hy : a.eval z = .agg y.cells.toArray) (hb : w.heap[A]? = some (.cells #[.slice none 0 0, .int .i64 0] 117 (0, 0)))
    (hw : Region.wanted o (yielded ops a.tmps) = true) (h : ∀ w', WnAt w' A y → Ch (fun q => q = A) w w' → wpList Try.prog ops Q rest a w') : wpList Try.prog ops Q (o :: rest) a w := by
  refine wpList_step fun K hK => ?_
  rw [if_pos hw]
  refine wp_store_row 117 x z ho A y.cells.toArray hx hy _ #[.slice none 0 0, .int .i64 0] hb Try.sizeWin rfl (by simp [WV.cells, Value.oneCell']) (hK _ _ ?_)
  rw [hd]
  refine h _ (setRow_heap w A _ _ _ _ hb) ⟨rfl, rfl, rfl, ?_, ?_⟩
  · simp [World.setRow]
  · intro k hk hne
    simp only [World.setRow]
    rw [Array.getElem?_modify, if_neg (fun e => hne e.symm)]
set_option maxRecDepth 100000 in
set_option maxHeartbeats 6400000 in
theorem looked_any (B : Nat) (w : World) (v : SV) (ok : SideOk B w v) (i : Int) (hW1 : 0 < v.W.length) (hW2 : v.W.length ≤ 1000000000) :
    Calls Try.prog 59 #[.agg v.cells, .int .i64 i] w fun e w' => e = .returned (.bool true) ∧ Below w.heap.size w w' := by
  obtain ⟨W, hW⟩ : ∃ W, W = w.alloc (.cells v.cells 29) := ⟨_, rfl⟩
  obtain ⟨O, hO⟩ : ∃ O, O = w.heap.size := ⟨_, rfl⟩
  have hb0 : Below w.heap.size w W := by rw [hW]; exact (Below.refl _ _).alloc (Nat.le_refl _) _
  have hbox : SdAt W O v := by rw [hW, hO]; exact sdAt_new w v
  have HW : Hid (w.alloc (.cells v.cells 29) = W) := hW.symm
  have HO : Hid (w.heap.size = O) := hO.symm
  have HOK : Hid _ := ok.below hb0
  have HB0 : Hid (Below w.heap.size w W) := hb0
  have HOW : Hid (O < W.heap.size) := hbox.lt
  obtain ⟨gw, hgw, _⟩ := ok.winAt 0 hW1
  have HGW : Hid (v.wa = some ⟨gw, 0, none⟩) := hgw
  obtain ⟨N, hN⟩ : ∃ N, N = v.W.length := ⟨_, rfl⟩
  have HN : Hid (v.W.length = N) := hN.symm
  rw [← hN] at hW1 hW2
  clear hW hO ok hb0 hgw hN
  go_enter Try.func59, Try.ntmps59
  go_upto_region 1 with fail
  rw [HW.out, HO.out]
  go_wp2
  refine MixH.start (fun x => SdAt x O v ∧ Below W.heap.size W x) (by kernel_rfl) ?_
  obtain ⟨wA, hwA⟩ : ∃ wA, wA = W.drew := ⟨_, rfl⟩
  have hS : SdAt wA O v ∧ Below W.heap.size W wA := by rw [hwA]; exact ⟨hbox, (Below.refl _ _).drew⟩
  rw [← hwA]
  clear hwA hbox
  refine MixH.takes [true, false, false, true] 7 (by kernel_rfl) (by kernel_rfl) (by decide) (by kernel_rfl) hS (fun K hK => ?_)
  simp only [Mix.pick]
  repeat (go_big_quiet_step (fail))
  refine wpQuiet_nil (hK _ ?_)
  clear hK K
  refine MixH.take 6 1 _ (.slice (some ⟨gw, 0, none⟩) N v.wc) rfl (by kernel_rfl) (by kernel_rfl) (by kernel_rfl) (by kernel_rfl) (yields_wins (.tmp 6) rfl O 6 (.slice (some ⟨gw, 0, none⟩) N v.wc) rfl rfl (fun _ h => by rw [h.1.c6, HGW.out, HN.out])) hS (fun a' ha => ?_)
  simp only [Act.put, List.setIfInBounds_toArray, List.set_cons_succ, List.set_cons_zero] at ha
  subst ha
  refine MixH.take 5 2 _ (.agg v.cells) rfl (by kernel_rfl) (by kernel_rfl) (by kernel_rfl) (by kernel_rfl) (yields_sd (.tmp 2) rfl O v rfl rfl (fun _ h => h.1)) hS (fun a' ha => ?_)
  simp only [Act.put, List.setIfInBounds_toArray, List.set_cons_succ, List.set_cons_zero] at ha
  subst ha
  refine MixH.pair [false, false, false, false, true] [false, false, false, false, false, false, false, true] 4 4 7 _ _ rfl rfl rfl rfl (by kernel_rfl) (by kernel_rfl) (fun K hK => ?_) (fun K hK => ?_)
  · simp only [Mix.pick]
    have Q1 : Hid _ := one_any wA v i (by rw [HN.out]; exact hW1) (by rw [HN.out]; omega)
    go_wp2_with fail
    refine Calls.mono Q1.out ?_
    rintro e wB ⟨k, hk, rfl, hq1⟩
    replace hS : SdAt wB O v ∧ Below W.heap.size W wB := ⟨SdAt.below hS.1 hq1, hS.2.trans (hq1.mono hS.2.size)⟩
    obtain ⟨gw', hgw', hrg⟩ := HOK.out.winAt k hk
    have eg : gw' = gw := by have := HGW.out; rw [hgw'] at this; simpa using this
    subst eg
    obtain ⟨y, hy⟩ : ∃ y, y = v.W[k]'hk := ⟨_, rfl⟩
    rw [← hy] at hrg
    have HRG : Hid _ := hrg
    have HY : Hid (y ∈ v.W) := by rw [hy]; exact List.getElem_mem _
    have k1 : (0 : Int) ≤ (k : Int) := by omega
    have k2 : (k : Int) < (N : Int) := by rw [HN.out] at hk; omega
    have k3 : ((k : Int)).toNat = k := by omega
    have k4 : k < N := by omega
    have hSB : W.heap.size ≤ wB.heap.size := hS.2.size
    clear Q1 hq1 hrg hy hk hgw'
    go_wp2
    refine ⟨rfl, hK _ _ hS ?_⟩
    clear hK K
    refine MixH.takes [false, false, false, false, false, true] 3 (by kernel_rfl) (by kernel_rfl) (by decide) (by kernel_rfl) hS (fun K hK => ?_)
    simp only [Mix.pick]
    repeat (go_big_quiet_step (fail))
    refine wpQuiet_nil (hK _ ?_)
    clear hK K
    refine MixH.take 2 6 _ ((.agg y.cells.toArray)) rfl (by kernel_rfl) (by kernel_rfl) (by kernel_rfl) (by kernel_rfl) ((yieldsIf_load_mid rfl 117 (.tmp 11) rfl gw' (k * 2) rfl y.cells _ (fun x h => HRG.out x h.2) Try.underlying117 rfl Try.sizeWin)) hS (fun a' ha => ?_)
    simp only [Act.put, List.setIfInBounds_toArray, List.set_cons_succ, List.set_cons_zero] at ha
    subst ha
    refine MixH.one [false, false, false, false, false, false, false, true] 1 7 _ rfl rfl (by kernel_rfl) (by kernel_rfl) (fun K hK => ?_)
    simp only [Mix.pick]
    have hq7 : Below wB.heap.size wB (wB.alloc (.cells #[.slice none 0 0, .int .i64 0] 117)) := (Below.refl _ _).alloc (Nat.le_refl _) _
    obtain ⟨A, hA⟩ : ∃ A, A = wB.heap.size := ⟨_, rfl⟩
    obtain ⟨wC, hwC⟩ : ∃ wC, wC = wB.alloc (.cells #[.slice none 0 0, .int .i64 0] 117) := ⟨_, rfl⟩
    have hZ : wC.heap[A]? = some (.cells #[.slice none 0 0, .int .i64 0] 117 (0, 0)) := by rw [hwC, hA]; exact heap_alloc_new _ _
    rw [← hwC] at hq7
    replace hS : SdAt wC O v ∧ Below W.heap.size W wC := ⟨SdAt.below hS.1 hq7, hS.2.trans (hq7.mono hS.2.size)⟩
    have HA : Hid (W.heap.size ≤ A) := by have := hS.2.size; show _ ≤ A; rw [hA]; exact hSB
    go_wp2
    rw [← hA, ← hwC]
    clear hA hwC hq7 hSB
    refine ⟨rfl, hK _ _ hS ?_⟩
    clear hK K
    refine MixH.one [false, false, false, false, false, false, false, false, true] 0 8 _ rfl rfl (by kernel_rfl) (by kernel_rfl) (fun K hK => ?_)
    simp only [Mix.pick]
    refine wpList_store_wn (.tmp 5) (.tmp 12) rfl rfl A y rfl rfl hZ rfl ?_
    intro w8 hW8 k8
    replace hS : SdAt w8 O v ∧ Below W.heap.size W w8 := ⟨hS.1.ch k8 (by have := HA.out; have := HOW.out; show ¬ O = A; omega), hS.2.trans (k8.below (fun q e => by have e' : q = A := e; have := HA.out; omega) hS.2.size)⟩
    have HW8 : Hid (WnAt w8 A y) := hW8
    clear k8 hZ hW8
    go_wp2
    refine ⟨rfl, hK _ _ hS ?_⟩
    clear hK K
    refine MixH.done (by kernel_rfl) ?_
    obtain ⟨y1, y2, y3⟩ := HOK.out.wins y HY.out
    have ok8 := HOK.out.below hS.2
    obtain ⟨hl, d, d1, d2, d3, d4, d5⟩ := ok8.win y1 y2 y3
    have HBW : Hid (Below w.heap.size w w8) := HB0.out.trans (hS.2.mono HB0.out.size)
    have Q2 : Hid (∀ x, Below w8.heap.size w8 x → Calls Try.prog 75 #[.agg v.r.cells, .int .i64 y.i, .int .i64 (y.n : Nat)] x fun e w' => ∃ a2 c2, e = .returned (.slice a2 y.n c2) ∧ Seg .u8 w' a2 (toI d) ∧ Below x.heap.size x w') := fun x hx => by
      refine (bytesR_any x v.r (ok8.ref.old hx) y.i hl y.n d2).mono ?_
      rintro e w' ⟨u, rfl, ho, hb⟩
      rw [← d4] at ho
      obtain ⟨a2, c2, rfl, sg, _⟩ := owns_seg ho
      exact ⟨a2, c2, rfl, sg, hb⟩
    have HD3 : Hid (Seg .u8 w8 (some ⟨y.b, 0, none⟩) (toI d)) := d3
    have HD1 : Hid (d.length = y.n) := d1
    have HD5 : Hid (∀ z ∈ d, z < 256) := d5
    have hbx8 := hS.1
    clear y1 y2 y3 ok8 d1 d2 d3 d4 d5 hS k1 k2 k3 k4
    go_wp2
    refine MixH.start (fun x => SdAt x O v ∧ WnAt x A y) (by kernel_rfl) ?_
    obtain ⟨wD, hwD⟩ : ∃ wD, wD = w8.drew := ⟨_, rfl⟩
    have hS : SdAt wD O v ∧ WnAt wD A y := by rw [hwD]; exact ⟨hbx8, HW8.out⟩
    have HBD : Hid (Below w8.heap.size w8 wD) := by rw [hwD]; exact (Below.refl _ _).drew
    rw [← hwD]
    clear hwD hbx8 HW8
    refine MixH.takes [true, false, true, false, true, false, true] 8 (by kernel_rfl) (by kernel_rfl) (by decide) (by kernel_rfl) hS (fun K hK => ?_)
    simp only [Mix.pick]
    repeat (go_big_quiet_step (fail))
    refine wpQuiet_nil (hK _ ?_)
    clear hK K
    refine MixH.take 7 1 _ (.slice (some ⟨y.b, 0, none⟩) y.n y.n) rfl (by kernel_rfl) (by kernel_rfl) (by kernel_rfl) (by kernel_rfl) (yields_bytes (.tmp 13) rfl A 0 (.slice (some ⟨y.b, 0, none⟩) y.n y.n) rfl rfl (fun _ h => h.2.c0)) hS (fun a' ha => ?_)
    simp only [Act.put, List.setIfInBounds_toArray, List.set_cons_succ, List.set_cons_zero] at ha
    subst ha
    refine MixH.take 6 3 _ (.agg v.r.cells) rfl (by kernel_rfl) (by kernel_rfl) (by kernel_rfl) (by kernel_rfl) (yields_sr (.tmp 15) rfl O v rfl rfl (fun _ h => h.1)) hS (fun a' ha => ?_)
    simp only [Act.put, List.setIfInBounds_toArray, List.set_cons_succ, List.set_cons_zero] at ha
    subst ha
    refine MixH.take 5 5 _ (.int .i64 y.i) rfl (by kernel_rfl) (by kernel_rfl) (by kernel_rfl) (by kernel_rfl) (yields_int (.tmp 17) rfl A 1 (.int .i64 y.i) rfl rfl (fun _ h => h.2.c1)) hS (fun a' ha => ?_)
    simp only [Act.put, List.setIfInBounds_toArray, List.set_cons_succ, List.set_cons_zero] at ha
    subst ha
    refine MixH.take 4 7 _ (.slice (some ⟨y.b, 0, none⟩) y.n y.n) rfl (by kernel_rfl) (by kernel_rfl) (by kernel_rfl) (by kernel_rfl) (yields_bytes (.tmp 19) rfl A 0 (.slice (some ⟨y.b, 0, none⟩) y.n y.n) rfl rfl (fun _ h => h.2.c0)) hS (fun a' ha => ?_)
    simp only [Act.put, List.setIfInBounds_toArray, List.set_cons_succ, List.set_cons_zero] at ha
    subst ha
    refine MixH.takes [false, false, false, false, false, false, false, false, true] 3 (by kernel_rfl) (by kernel_rfl) (by decide) (by kernel_rfl) hS (fun K hK => ?_)
    simp only [Mix.pick]
    repeat (go_big_quiet_step (fail))
    refine wpQuiet_nil (hK _ ?_)
    clear hK K
    refine MixH.one [false, false, false, false, false, false, false, false, false, true] 2 9 _ rfl rfl (by kernel_rfl) (by kernel_rfl) (fun K hK => ?_)
    simp only [Mix.pick]
    go_wp2_with fail
    refine Calls.mono (Q2.out wD HBD.out) ?_
    rintro e wE ⟨a2, c2, rfl, hs2, hqE⟩
    replace hS : SdAt wE O v ∧ WnAt wE A y := ⟨SdAt.below hS.1 hqE, WnAt.ch hS.2 (Ch.ofBelow (S := fun _ => False) hqE) id⟩
    have HBE : Hid (Below w8.heap.size w8 wE) := HBD.out.trans (hqE.mono HBD.out.size)
    have Q3 : Hid _ := alike_any (some ⟨y.b, 0, none⟩) a2 y.n c2 d d wE (HD3.out.old HBE.out) hs2 HD5.out HD5.out
    rw [decide_eq_true rfl, HD1.out] at Q3
    clear Q2 hqE hs2
    go_wp2
    refine ⟨rfl, hK _ _ hS ?_⟩
    clear hK K
    refine MixH.one [false, false, false, false, false, false, false, false, false, false, true] 1 10 _ rfl rfl (by kernel_rfl) (by kernel_rfl) (fun K hK => ?_)
    simp only [Mix.pick]
    go_wp2_with fail
    refine Calls.mono Q3.out ?_
    rintro e wF ⟨rfl, rfl⟩
    clear Q3
    go_wp2
    refine ⟨rfl, hK _ _ hS ?_⟩
    clear hK K
    refine MixH.takes [false, false, false, false, false, false, false, false, false, false, false, true] 0 (by kernel_rfl) (by kernel_rfl) (by decide) (by kernel_rfl) hS (fun K hK => ?_)
    simp only [Mix.pick]
    repeat (go_big_quiet_step (fail))
    refine wpQuiet_nil (hK _ ?_)
    clear hK K
    refine MixH.done (by kernel_rfl) ?_
    go_wp2
    go_ret
    exact ⟨rfl, HBW.out.trans (HBE.out.mono HBW.out.size)⟩
  · simp only [Mix.pick]
    have hSA : W.heap.size ≤ wA.heap.size := hS.2.size
    have hq7 : Below wA.heap.size wA (wA.alloc (.cells #[.slice none 0 0, .int .i64 0] 117)) := (Below.refl _ _).alloc (Nat.le_refl _) _
    obtain ⟨A, hA⟩ : ∃ A, A = wA.heap.size := ⟨_, rfl⟩
    obtain ⟨wB, hwB⟩ : ∃ wB, wB = wA.alloc (.cells #[.slice none 0 0, .int .i64 0] 117) := ⟨_, rfl⟩
    have hZ : wB.heap[A]? = some (.cells #[.slice none 0 0, .int .i64 0] 117 (0, 0)) := by rw [hwB, hA]; exact heap_alloc_new _ _
    rw [← hwB] at hq7
    replace hS : SdAt wB O v ∧ Below W.heap.size W wB := ⟨SdAt.below hS.1 hq7, hS.2.trans (hq7.mono hS.2.size)⟩
    have HA : Hid (W.heap.size ≤ A) := by have := hS.2.size; show _ ≤ A; rw [hA]; exact hSA
    go_wp2
    rw [← hA, ← hwB]
    clear hA hwB hq7
    refine ⟨rfl, hK _ _ hS ?_⟩
    clear hK K
    refine MixH.one [false, false, false, false, true] 3 4 _ rfl rfl (by kernel_rfl) (by kernel_rfl) (fun K hK => ?_)
    simp only [Mix.pick]
    have Q1 : Hid _ := one_any wB v i (by rw [HN.out]; exact hW1) (by rw [HN.out]; omega)
    go_wp2_with fail
    refine Calls.mono Q1.out ?_
    rintro e wC ⟨k, hk, rfl, hq1⟩
    replace hS : SdAt wC O v ∧ Below W.heap.size W wC := ⟨SdAt.below hS.1 hq1, hS.2.trans (hq1.mono hS.2.size)⟩
    obtain ⟨gw', hgw', hrg⟩ := HOK.out.winAt k hk
    have eg : gw' = gw := by have := HGW.out; rw [hgw'] at this; simpa using this
    subst eg
    obtain ⟨y, hy⟩ : ∃ y, y = v.W[k]'hk := ⟨_, rfl⟩
    rw [← hy] at hrg
    have HRG : Hid _ := hrg
    have HY : Hid (y ∈ v.W) := by rw [hy]; exact List.getElem_mem _
    have k1 : (0 : Int) ≤ (k : Int) := by omega
    have k2 : (k : Int) < (N : Int) := by rw [HN.out] at hk; omega
    have k3 : ((k : Int)).toNat = k := by omega
    have k4 : k < N := by omega
    have hZ2 := (hq1.block A (Array.getElem?_eq_some_iff.1 hZ).1).trans hZ
    clear Q1 hq1 hrg hy hgw' hk hZ
    have hZ := hZ2
    clear hZ2
    go_wp2
    refine ⟨rfl, hK _ _ hS ?_⟩
    clear hK K
    refine MixH.takes [false, false, false, false, false, true] 2 (by kernel_rfl) (by kernel_rfl) (by decide) (by kernel_rfl) hS (fun K hK => ?_)
    simp only [Mix.pick]
    repeat (go_big_quiet_step (fail))
    refine wpQuiet_nil (hK _ ?_)
    clear hK K
    refine MixH.take 1 6 _ ((.agg y.cells.toArray)) rfl (by kernel_rfl) (by kernel_rfl) (by kernel_rfl) (by kernel_rfl) ((yieldsIf_load_mid rfl 117 (.tmp 11) rfl gw' (k * 2) rfl y.cells _ (fun x h => HRG.out x h.2) Try.underlying117 rfl Try.sizeWin)) hS (fun a' ha => ?_)
    simp only [Act.put, List.setIfInBounds_toArray, List.set_cons_succ, List.set_cons_zero] at ha
    subst ha
    refine MixH.one [false, false, false, false, false, false, false, false, true] 0 8 _ rfl rfl (by kernel_rfl) (by kernel_rfl) (fun K hK => ?_)
    simp only [Mix.pick]
    refine wpList_store_wn (.tmp 5) (.tmp 12) rfl rfl A y rfl rfl hZ rfl ?_
    intro w8 hW8 k8
    replace hS : SdAt w8 O v ∧ Below W.heap.size W w8 := ⟨hS.1.ch k8 (by have := HA.out; have := HOW.out; show ¬ O = A; omega), hS.2.trans (k8.below (fun q e => by have e' : q = A := e; have := HA.out; omega) hS.2.size)⟩
    have HW8 : Hid (WnAt w8 A y) := hW8
    clear k8 hZ hW8
    go_wp2
    refine ⟨rfl, hK _ _ hS ?_⟩
    clear hK K
    refine MixH.done (by kernel_rfl) ?_
    obtain ⟨y1, y2, y3⟩ := HOK.out.wins y HY.out
    have ok8 := HOK.out.below hS.2
    obtain ⟨hl, d, d1, d2, d3, d4, d5⟩ := ok8.win y1 y2 y3
    have HBW : Hid (Below w.heap.size w w8) := HB0.out.trans (hS.2.mono HB0.out.size)
    have Q2 : Hid (∀ x, Below w8.heap.size w8 x → Calls Try.prog 75 #[.agg v.r.cells, .int .i64 y.i, .int .i64 (y.n : Nat)] x fun e w' => ∃ a2 c2, e = .returned (.slice a2 y.n c2) ∧ Seg .u8 w' a2 (toI d) ∧ Below x.heap.size x w') := fun x hx => by
      refine (bytesR_any x v.r (ok8.ref.old hx) y.i hl y.n d2).mono ?_
      rintro e w' ⟨u, rfl, ho, hb⟩
      rw [← d4] at ho
      obtain ⟨a2, c2, rfl, sg, _⟩ := owns_seg ho
      exact ⟨a2, c2, rfl, sg, hb⟩
    have HD3 : Hid (Seg .u8 w8 (some ⟨y.b, 0, none⟩) (toI d)) := d3
    have HD1 : Hid (d.length = y.n) := d1
    have HD5 : Hid (∀ z ∈ d, z < 256) := d5
    have hbx8 := hS.1
    clear y1 y2 y3 ok8 d1 d2 d3 d4 d5 hS k1 k2 k3 k4
    go_wp2
    refine MixH.start (fun x => SdAt x O v ∧ WnAt x A y) (by kernel_rfl) ?_
    obtain ⟨wD, hwD⟩ : ∃ wD, wD = w8.drew := ⟨_, rfl⟩
    have hS : SdAt wD O v ∧ WnAt wD A y := by rw [hwD]; exact ⟨hbx8, HW8.out⟩
    have HBD : Hid (Below w8.heap.size w8 wD) := by rw [hwD]; exact (Below.refl _ _).drew
    rw [← hwD]
    clear hwD hbx8 HW8
    refine MixH.takes [true, false, true, false, true, false, true] 8 (by kernel_rfl) (by kernel_rfl) (by decide) (by kernel_rfl) hS (fun K hK => ?_)
    simp only [Mix.pick]
    repeat (go_big_quiet_step (fail))
    refine wpQuiet_nil (hK _ ?_)
    clear hK K
    refine MixH.take 7 1 _ (.slice (some ⟨y.b, 0, none⟩) y.n y.n) rfl (by kernel_rfl) (by kernel_rfl) (by kernel_rfl) (by kernel_rfl) (yields_bytes (.tmp 13) rfl A 0 (.slice (some ⟨y.b, 0, none⟩) y.n y.n) rfl rfl (fun _ h => h.2.c0)) hS (fun a' ha => ?_)
    simp only [Act.put, List.setIfInBounds_toArray, List.set_cons_succ, List.set_cons_zero] at ha
    subst ha
    refine MixH.take 6 3 _ (.agg v.r.cells) rfl (by kernel_rfl) (by kernel_rfl) (by kernel_rfl) (by kernel_rfl) (yields_sr (.tmp 15) rfl O v rfl rfl (fun _ h => h.1)) hS (fun a' ha => ?_)
    simp only [Act.put, List.setIfInBounds_toArray, List.set_cons_succ, List.set_cons_zero] at ha
    subst ha
    refine MixH.take 5 5 _ (.int .i64 y.i) rfl (by kernel_rfl) (by kernel_rfl) (by kernel_rfl) (by kernel_rfl) (yields_int (.tmp 17) rfl A 1 (.int .i64 y.i) rfl rfl (fun _ h => h.2.c1)) hS (fun a' ha => ?_)
    simp only [Act.put, List.setIfInBounds_toArray, List.set_cons_succ, List.set_cons_zero] at ha
    subst ha
    refine MixH.take 4 7 _ (.slice (some ⟨y.b, 0, none⟩) y.n y.n) rfl (by kernel_rfl) (by kernel_rfl) (by kernel_rfl) (by kernel_rfl) (yields_bytes (.tmp 19) rfl A 0 (.slice (some ⟨y.b, 0, none⟩) y.n y.n) rfl rfl (fun _ h => h.2.c0)) hS (fun a' ha => ?_)
    simp only [Act.put, List.setIfInBounds_toArray, List.set_cons_succ, List.set_cons_zero] at ha
    subst ha
    refine MixH.takes [false, false, false, false, false, false, false, false, true] 3 (by kernel_rfl) (by kernel_rfl) (by decide) (by kernel_rfl) hS (fun K hK => ?_)
    simp only [Mix.pick]
    repeat (go_big_quiet_step (fail))
    refine wpQuiet_nil (hK _ ?_)
    clear hK K
    refine MixH.one [false, false, false, false, false, false, false, false, false, true] 2 9 _ rfl rfl (by kernel_rfl) (by kernel_rfl) (fun K hK => ?_)
    simp only [Mix.pick]
    go_wp2_with fail
    refine Calls.mono (Q2.out wD HBD.out) ?_
    rintro e wE ⟨a2, c2, rfl, hs2, hqE⟩
    replace hS : SdAt wE O v ∧ WnAt wE A y := ⟨SdAt.below hS.1 hqE, WnAt.ch hS.2 (Ch.ofBelow (S := fun _ => False) hqE) id⟩
    have HBE : Hid (Below w8.heap.size w8 wE) := HBD.out.trans (hqE.mono HBD.out.size)
    have Q3 : Hid _ := alike_any (some ⟨y.b, 0, none⟩) a2 y.n c2 d d wE (HD3.out.old HBE.out) hs2 HD5.out HD5.out
    rw [decide_eq_true rfl, HD1.out] at Q3
    clear Q2 hqE hs2
    go_wp2
    refine ⟨rfl, hK _ _ hS ?_⟩
    clear hK K
    refine MixH.one [false, false, false, false, false, false, false, false, false, false, true] 1 10 _ rfl rfl (by kernel_rfl) (by kernel_rfl) (fun K hK => ?_)
    simp only [Mix.pick]
    go_wp2_with fail
    refine Calls.mono Q3.out ?_
    rintro e wF ⟨rfl, rfl⟩
    clear Q3
    go_wp2
    refine ⟨rfl, hK _ _ hS ?_⟩
    clear hK K
    refine MixH.takes [false, false, false, false, false, false, false, false, false, false, false, true] 0 (by kernel_rfl) (by kernel_rfl) (by decide) (by kernel_rfl) hS (fun K hK => ?_)
    simp only [Mix.pick]
    repeat (go_big_quiet_step (fail))
    refine wpQuiet_nil (hK _ ?_)
    clear hK K
    refine MixH.done (by kernel_rfl) ?_
    go_wp2
    go_ret
    exact ⟨rfl, HBW.out.trans (HBE.out.mono HBW.out.size)⟩
end Go.Proofs.Ythknkfggpdhdbaa
namespace Go.Proofs.Ythknkfggpdhdbaa
open Go.RowKit

theorem yields_u8 {ops : Array Oper} {o : Oper} {a : Act} {S : World → Prop} (x : Operand) (ho : o.op = .load 5 x) (b off : Nat) (u : Value) (hx : a.eval x = .pointer (some ⟨b, off, none⟩)) (hw : Region.wanted o (yielded ops a.tmps) = true) (hS : ∀ w, S w → w.cell? ⟨b, off, none⟩ = some u) : YieldsIf Try.prog ops S o u a := by
  refine .inl ⟨hw, fun w hb => ?_⟩
  have hc := hS w hb
  have hu := Try.underlying5
  obtain ⟨dst, op, type, pos, after, guard⟩ := o
  simp only at ho
  subst ho
  simp only [execOp, Sem.run_bind, Sem.run_pure]
  rw [hx]
  simp [Instr.loadAt, go_sem, hc]
theorem seg_one {w : World} {a : Option Addr} {l : List Nat} (h : Seg .u8 w a (toI l)) (i : Nat) (hi : i < l.length) : ∃ b off, a = some ⟨b, off, none⟩ ∧ w.cell? ⟨b, off + i, none⟩ = some (.int .u8 ((l.getD i 0 : Nat) : Int)) := by
  rcases h with hnil | ⟨b, off, rfl, hc⟩
  · have := congrArg List.length hnil
    rw [toI_len] at this
    have h0 : l.length = 0 := this
    omega
  · refine ⟨b, off, rfl, ?_⟩
    have := hc i (by rw [toI_len]; exact hi)
    rwa [toI_getD] at this
section
variable {B F : Nat} {w x w1 w2 : World} {v v' : SV} {s1 : PS} {r2 : RV}
theorem PInv.dat {s : PS} (h : PInv s) (da : Nat → List Nat) : PInv { s with da := da } := ⟨h.nd, h.lt, h.fl, h.p1, h.p2, h.p3, h.p5, h.pr, h.ln⟩
/-- a byte of a window is written -/
theorem byte_pt (h : SideOk B x v) {i b p c : Nat} (hi : i < v.s.pool) (hb : v.s.bb i = some b) (hp : p < v.s.size) (hc : c < 256) : (∃ z : Value, x.cell? ⟨b, p, none⟩ = some z) ∧ x.frozen? ⟨b, p, none⟩ = false ∧ Pt x (x.setCell ⟨b, p, none⟩ (.int .u8 (c : Int))) v { v.s with da := updF v.s.da i ((v.s.da i).set p c) } := by
  have hr := h.port.row i b hi hb
  have hdl := h.port.dl i hi
  obtain ⟨hst, _⟩ := hr.stored p (.int .u8 (c : Int))
  have e : ((toI (v.s.da i)).map (Value.int .u8)).set p (.int .u8 (c : Int)) = (toI ((v.s.da i).set p c)).map (Value.int .u8) := by simp [toI, List.map_set]
  rw [e] at hst
  have kk : Ch (fun q => q = b) x (x.setCell ⟨b, p, none⟩ (.int .u8 (c : Int))) := (Ch.refl _ x).set _ _ rfl
  have hP := h.port.setDa i b hi hb kk ((v.s.da i).set p c) (by rw [List.length_set]; exact hdl) (fun y hy => by
    rcases List.mem_or_eq_of_mem_set hy with h1 | h1
    · exact h.port.d256 i hi y h1
    · omega) hst
  have hc1 := hr.cellAt p (by omega)
  rw [List.getElem?_eq_getElem (by rw [List.length_map, toI_len]; omega)] at hc1
  refine ⟨⟨_, hc1⟩, hr.frozenAt p, ⟨hP, h.inv.dat _, rfl, rfl, rfl, rfl, kk.mono (fun q _ e => .inr (.inr (.inr (.inr (.inr ⟨i, hi, by rw [hb, show q = b from e]⟩))))), fun q hq => .inl hq⟩, fun _ _ _ h => h⟩
theorem writeR_u (h : SideOk B x v) {i p c : Nat} (hi : i < v.s.pool) (hp : p < v.s.size) (hc : c < 256) (pt : Pt x w1 v { v.s with da := updF v.s.da i ((v.s.da i).set p c) }) :
    Calls Try.prog 74 #[.agg v.r.cells, .int .i64 i, .int .i64 p, .int .u8 c] w1 fun e w2 => ∃ r2, e = .returned (.agg r2.cells) ∧ Nx w1 w2 v { v.s with da := updF v.s.da i ((v.s.da i).set p c) } r2 ∧ r2.now = v.r.now := by
  obtain ⟨r1, a1⟩ := h.refp pt.pl
  have hl : i < v.r.L.length := by rw [h.twin.len]; exact hi
  have h65 := h.port.sz2
  refine (writeR_any w1 v.r r1 a1 i hl p c (by omega) hc).mono ?_
  rintro e w2 ⟨g, cl, av, cv, rfl, ok2, hgl, hg, hav, hb⟩
  refine ⟨_, rfl, ⟨h.twin.written hl p c hp av cv g cl, ok2, fun a ha => ?_, .inr (fun a ha => ?_), fun q hq => ?_, Nat.le_add_right _ _, hb⟩, rfl⟩
  · have := Option.some.inj ha
    subst this
    exact hgl
  · have := Option.some.inj ha
    subst this
    exact hg
  · rcases pt_dblk _ _ _ _ _ _ hq with h1 | ⟨_, a, h2, h3⟩
    · exact .inl h1
    · exact .inr (by rw [← h3]; exact hav a h2)
/-- beside its boxes, again and again -/
structure LocW (B F : Nat) (w x : World) (v v' : SV) : Prop where
  loc : Loc B F w x v v'
  wr : ∀ q, v'.wr q → v.wr q ∨ F ≤ q
theorem LocW.go (h : LocW B F w x v v') (hx : F ≤ x.heap.size) (p : Pt x w1 v' s1) (n : Nx w1 w2 v' s1 r2) : LocW B F w w2 v { v' with s := s1, r := r2 } := by
  obtain ⟨h1, h2, h3⟩ := h.loc.ok.next p.pl n.bel p.bb n.tw n.ok n.al n.alr n.dr
  refine ⟨⟨h1, h.loc.ch.trans h2 (fun q hq e => ?_), fun q hq => ?_, h.loc.old, h.loc.hF⟩, fun q hq => ?_⟩
  · rcases h.wr q e with h4 | h4
    · exact h4
    · have := h.loc.hF; omega
  · rcases h3 q hq with h4 | h4
    · exact h.loc.new q h4
    · exact .inr (by omega)
  · rcases hq with hq | hq
    · rcases p.pl.blk q hq with h4 | h4
      · exact h.wr q (.inl h4)
      · exact .inr (by omega)
    · exact h.wr q (.inr hq)
end
/-- while bytes are written through a window -/
structure Wt (B F : Nat) (w x : World) (v : SV) (O A : Nat) (C : Array Value) (y : WV) (s : PS) (r : RV) : Prop where
  lw : LocW B F w x v { v with s := s, r := r }
  box : SdAt x O { v with r := r }
  op : x.heap[O + 1]? = some (.cells C 68 (0, 0))
  res : x.heap[O + 2]? = some (.cells zS 29 (0, 0))
  win : WnAt x A y
  now : r.now = v.r.now
  hx : F ≤ x.heap.size
theorem Wt.drew {B F : Nat} {w x : World} {v : SV} {O A : Nat} {C : Array Value} {y : WV} {s : PS} {r : RV} (h : Wt B F w x v O A C y s r) : Wt B F w x.drew v O A C y s r :=
  ⟨⟨h.lw.loc.below (Below.refl _ _).drew, h.lw.wr⟩, h.box, h.op, h.res, h.win, h.now, h.hx⟩
/-- the boxes are none of the side's blocks -/
theorem Wt.far {B F : Nat} {w x : World} {v : SV} {O A : Nat} {C : Array Value} {y : WV} {s : PS} {r : RV} (h : Wt B F w x v O A C y s r) (q : Nat) (h1 : w.heap.size ≤ q) (h2 : q < F) : ¬ SV.all { v with s := s, r := r } q := fun e => by
  rcases h.lw.loc.new q e with h3 | h3
  · have := h.lw.loc.old q h3; omega
  · omega
/-- a byte is written and the document's port is another -/
theorem Wt.next {B F : Nat} {w x w1 w2 w3 : World} {v : SV} {O A : Nat} {C : Array Value} {y : WV} {s s1 : PS} {r r2 : RV} (h : Wt B F w x v O A C y s r) (hO : w.heap.size = O) (hA : O + 3 ≤ A) (hAF : A < F)
    (p : Pt x w1 { v with s := s, r := r } s1) (n : Nx w1 w2 { v with s := s, r := r } s1 r2) (hn : r2.now = r.now) (hb3 : SdAt w3 O { v with r := r2 }) (k3 : Ch (fun q => q = O) w2 w3) : Wt B F w w3 v O A C y s1 r2 := by
  have g := h.lw.go h.hx p n
  have hpb : ∀ q, w.heap.size ≤ q → q < F → ¬ PB v.P v.gb v.gf v.gr v.gt s q := fun q h1 h2 e => h.far q h1 h2 (.inl (.inl e))
  have k12 : Ch (fun q => PB v.P v.gb v.gf v.gr v.gt s q) x w2 := p.pl.ch.trans (Ch.ofBelow (S := fun q => PB v.P v.gb v.gf v.gr v.gt s q) n.bel) (fun _ _ e => e)
  have b12 := fun q (h1 : w.heap.size ≤ q) (h2 : q < F) (h3 : q < x.heap.size) => k12.block q h3 (hpb q h1 h2)
  have oplt := (Array.getElem?_eq_some_iff.1 h.op).1
  have reslt := (Array.getElem?_eq_some_iff.1 h.res).1
  have winlt := (Array.getElem?_eq_some_iff.1 h.win).1
  have op2 := (b12 (O + 1) (by omega) (by omega) oplt).trans h.op
  have res2 := (b12 (O + 2) (by omega) (by omega) reslt).trans h.res
  have win2 : w2.heap[A]? = _ := (b12 A (by omega) (by omega) winlt).trans h.win
  have hs2 := k12.size
  refine ⟨⟨g.loc.set (X := O) (by omega) (by omega) k3, g.wr⟩, hb3, (k3.block (O + 1) (by omega) (show ¬ O + 1 = O by omega)).trans op2, (k3.block (O + 2) (by omega) (show ¬ O + 2 = O by omega)).trans res2, (k3.block A (by omega) (show ¬ A = O by omega)).trans win2, hn.trans h.now, ?_⟩
  have := k3.size
  have := h.hx
  omega

set_option maxRecDepth 100000 in
set_option maxHeartbeats 12800000 in
theorem written_any (B : Nat) (w : World) (v : SV) (ok : SideOk B w v) (hW1 : 0 < v.W.length) (hW2 : v.W.length ≤ 1000000000) (two : Bool) (i n : Int) (oa : Option Addr) (oc : Nat) (fr : List Nat) (hs : Seg .u8 w oa (toI fr)) (h256 : ∀ y ∈ fr, y < 256) (hfr : fr.length ≤ 140737488355000) (hop : ∀ y, fr ≠ [] → oa = some y → ¬ v.all y.block) :
    Calls Try.prog 58 #[.agg v.cells, .agg (opC 10 two i n oa fr.length oc)] w fun e w' => ∃ v', e = .returned (.agg v'.cells) ∧ Stepped B w w' v v' ∧ v'.W = v.W := by
  obtain ⟨fl, hfl⟩ : ∃ fl, fl = fr.length := ⟨_, rfl⟩
  rw [← hfl]
  rw [← hfl] at hfr
  have HFL : Hid (fr.length = fl) := hfl.symm
  obtain ⟨j0, hji, jz0, jz1, jz2⟩ := info_parts Try.infoByte
  obtain ⟨C, hC⟩ : ∃ C, C = opC 10 two i n oa fl oc := ⟨_, rfl⟩
  rw [← hC]
  obtain ⟨W, hW⟩ : ∃ W, W = ((w.alloc (.cells v.cells 29)).alloc (.cells C 68)).alloc (.cells zS 29) := ⟨_, rfl⟩
  obtain ⟨O, hO⟩ : ∃ O, O = w.heap.size := ⟨_, rfl⟩
  have hbx : Bxs W O v C := by rw [hW, hO]; exact bxs_new w v C
  have hsz : W.heap.size = O + 3 := by rw [hW, hO]; exact bxs_size w v C
  have hL : Loc B (O + 3) w W v v := by rw [← hsz, hW]; exact Loc.start ok (bxs_below w v C)
  have HW : Hid (((w.alloc (.cells v.cells 29)).alloc (.cells C 68)).alloc (.cells #[.pointer none, .int .i64 0, .int .i64 0, .int .i64 0, .slice none 0 0, .int .i64 0, .slice none 0 0] 29) = W) := hW.symm
  have HO : Hid (w.heap.size = O) := hO.symm
  have HSZ : Hid (W.heap.size = O + 3) := hsz
  have HL : Hid _ := hL
  have HB : Hid _ := hbx
  have c0 := hbx.box.c0
  have ck : W.cell? ⟨O + 1, 0, none⟩ = some (.int .i64 10) := by rw [hC] at hbx; exact hbx.ckd
  have ci : W.cell? ⟨O + 1, 2, none⟩ = some (.int .i64 i) := by rw [hC] at hbx; exact hbx.ci
  have cb : W.cell? ⟨O + 1, 4, none⟩ = some (.slice oa fl oc) := by rw [hC] at hbx; exact hbx.cb
  have cn : W.cell? ⟨O + 1, 3, none⟩ = some (.int .i64 n) := by rw [hC] at hbx; exact hbx.cn
  have HC : Hid (C = opC 10 two i n oa fl oc) := hC
  have HOK : Hid _ := ok
  have HBW : Hid (Below w.heap.size w W) := by rw [hW]; exact bxs_below w v C
  have hbox := hbx.box
  have Q1 : Hid _ := one_any W v i hW1 (by omega)
  have HSG : Hid (Seg .u8 w oa (toI fr)) := hs
  have H256 : Hid _ := h256
  have HOP : Hid (∀ y, fr ≠ [] → oa = some y → ¬ v.all y.block) := hop
  clear hW hO hsz hL hC ok hbx hs h256 hop hfl
  go_enter Try.func58, Try.ntmps58
  go_upto_region 1 with fail
  rw [HW.out, HO.out]
  go_wp2_with (first | (refine wpList_load_sd (.tmp 2) rfl O v rfl hbox rfl ?_))
  refine Calls.mono Q1.out ?_
  rintro e w1 ⟨k, hk, rfl, hq1⟩
  have hbx1 := HB.out.below hq1
  have hbox1 := hbx1.box
  have HB1 : Hid _ := hbx1
  have HBW1 : Hid (Below w.heap.size w w1) := HBW.out.trans (hq1.mono HBW.out.size)
  obtain ⟨gw, hgw, hrg⟩ := HOK.out.winAt k hk
  obtain ⟨y, hy⟩ : ∃ y, y = v.W[k]'hk := ⟨_, rfl⟩
  rw [← hy] at hrg
  have HRG : Hid _ := hrg
  have HY : Hid (y ∈ v.W) := by rw [hy]; exact List.getElem_mem _
  obtain ⟨N, hN⟩ : ∃ N, N = v.W.length := ⟨_, rfl⟩
  have c61 : w1.cell? ⟨O, 6, none⟩ = some (.slice (some ⟨gw, 0, none⟩) N v.wc) := by rw [hbox1.c6, hgw, hN]
  have k1 : (0 : Int) ≤ (k : Int) := by omega
  have k2 : (k : Int) < (N : Int) := by omega
  have k3 : ((k : Int)).toNat = k := by omega
  have k4 : k < N := by omega
  have hrg1 := HRG.out w1 HBW1.out
  have hzw : (w1.alloc (.cells #[.slice none 0 0, .int .i64 0] 117)).heap[w1.heap.size]? = some (.cells #[.slice none 0 0, .int .i64 0] 117 (0, 0)) := heap_alloc_new _ _
  clear Q1 hq1 hbx1 hgw hrg hy hk hN hbox c0 ck ci cn cb hW1 hW2
  go_wp2_with (first | (refine wpList_load_mid rfl 117 (.tmp 17) rfl gw (k * 2) rfl y.cells _ hrg1 Try.underlying117 rfl Try.sizeWin ?_) | (refine wpList_store_wn (.tmp 6) (.tmp 18) rfl rfl w1.heap.size y rfl rfl hzw rfl ?_))
  intro w3 hW3 k3'
  obtain ⟨A, hA⟩ : ∃ A, A = w1.heap.size := ⟨_, rfl⟩
  have h0a : Below w1.heap.size w1 (w1.alloc (.cells #[.slice none 0 0, .int .i64 0] 117)) := (Below.refl _ _).alloc (Nat.le_refl _) _
  have hlt1 := HB1.out.lt
  have hb3 : Below w.heap.size w w3 := (HBW1.out.trans (h0a.mono HBW1.out.size)).trans (k3'.below (fun q e => by have e' : q = w1.heap.size := e; have := HBW1.out.size; omega) (Nat.le_trans HBW1.out.size h0a.size))
  have hbx3 := (HB1.out.below h0a).ch k3' (show ¬ O = w1.heap.size by omega) (show ¬ O + 1 = w1.heap.size by omega) (show ¬ O + 2 = w1.heap.size by omega)
  have T0 : Hid (Wt B w3.heap.size w w3 v O A C y v.s v.r) := ⟨⟨Loc.start HOK.out hb3, fun q hq => .inl hq⟩, hbx3.box, hbx3.op, hbx3.res, by rw [hA]; exact hW3, rfl, Nat.le_refl _⟩
  have HA : Hid (O + 3 ≤ A ∧ A < w3.heap.size) := ⟨by rw [hA]; omega, by rw [hA]; exact (Array.getElem?_eq_some_iff.1 hW3).1⟩
  obtain ⟨F, hF⟩ : ∃ F, F = w3.heap.size := ⟨_, rfl⟩
  rw [← hA]
  rw [← hF] at T0 HA
  obtain ⟨yw1, yw2, yw3⟩ := HOK.out.wins y HY.out
  have HYW : Hid (y.i < v.s.pool ∧ v.s.bb y.i = some y.b ∧ y.n ≤ v.s.size) := ⟨yw1, yw2, yw3⟩
  have HSZ2 : Hid (v.s.size ≤ 65535) := HOK.out.port.sz2
  clear hzw hrg1 HRG hW3 k3' h0a hlt1 hb3 hbx3 hA hF c61 k1 k2 k3 k4 hbox1 yw1 yw2 yw3 HB HL HSZ HBW HB1 HBW1
  go_wp2
  go_loopw [7] (fun ix wr => ∃ (k : Nat) (s : PS) (r : RV), k ≤ fl ∧ ix = .int .i64 k ∧ Hid (Wt B F w wr v O A C y s r ∧ s.pool = v.s.pool ∧ s.bb = v.s.bb ∧ s.size = v.s.size)) (fun ix _ => fl - (intOf ix).toNat)
  case atStart => exact ⟨0, v.s, v.r, Nat.zero_le _, rfl, T0.out, rfl, rfl, rfl⟩
  case round =>
    obtain ⟨k, s, r, hk, rfl, ST⟩ := hrel
    clear T0
    have hopr := ST.out.1.op
    rw [HC.out] at hopr
    have cn1 : wr.cell? ⟨O + 1, 3, none⟩ = some (.int .i64 n) := by simp [World.cell?, hopr, opC]
    have cb1 : wr.cell? ⟨O + 1, 4, none⟩ = some (.slice oa fl oc) := by simp [World.cell?, hopr, opC]
    have cw0 := ST.out.1.win.c0
    by_cases hlt : k < fl
    · go_upto_region 7 with fail
      obtain ⟨t, ht⟩ : ∃ t, t = wrap64 (n + (k : Int)) := ⟨_, rfl⟩
      rw [← ht]
      clear ht
      by_cases ht0 : 0 ≤ t
      · by_cases ht1 : t < (y.n : Int)
        · obtain ⟨p, hp⟩ : ∃ p : Nat, t = (p : Int) := ⟨t.toNat, by omega⟩
          subst hp
          have hpn : p < y.n := by omega
          obtain ⟨c, hc⟩ : ∃ c, c = fr.getD k 0 := ⟨_, rfl⟩
          have hkf : k < fr.length := by rw [HFL.out]; exact hlt
          have hc256 : c < 256 := by rw [hc]; exact H256.out _ (by simp [List.getD, hkf])
          obtain ⟨ob, off, hob, hcell⟩ := seg_one HSG.out k hkf
          rw [← hc] at hcell
          subst hob
          have hobl : ob < w.heap.size := World.block_lt_of_cell? w ⟨ob, off + k, none⟩ hcell
          have hcr : wr.cell? ⟨ob, off + k, none⟩ = some (.int .u8 (c : Int)) := by
            refine ST.out.1.lw.loc.ch.cell hcell (fun e => ?_)
            exact HOP.out ⟨ob, off, none⟩ (fun e2 => by rw [e2] at hkf; simp at hkf) rfl (.inl e)
          have HYI : Hid (y.i < s.pool ∧ s.bb y.i = some y.b ∧ p < s.size) := by
            obtain ⟨_, e1, e2, e3⟩ := ST.out
            obtain ⟨f1, f2, f3⟩ := HYW.out
            exact ⟨by rw [e1]; exact f1, by rw [e2]; exact f2, by rw [e3]; omega⟩
          obtain ⟨⟨z, cz⟩, fz, hpt⟩ := byte_pt ST.out.1.drew.lw.loc.ok HYI.out.1 HYI.out.2.1 HYI.out.2.2 hc256
          try simp only at cz fz
          have p0 : (0 : Int) ≤ (p : Int) := by omega
          have p2 : ((p : Int)).toNat = p := by omega
          have kk0 : (0 : Int) ≤ (k : Int) := by omega
          have kk1 : (k : Int) < (fl : Int) := by omega
          have kk2 : ((k : Int)).toNat = k := by omega
          have hobA : Hid (ob ≠ O ∧ ob ≠ O + 1 ∧ ob ≠ A ∧ ¬ v.all ob) := by
            have h1 := HO.out
            have h2 := HA.out
            exact ⟨by omega, by omega, by omega, HOP.out ⟨ob, off, none⟩ (fun e2 => by rw [e2] at hkf; simp at hkf) rfl⟩
          have HPT : Hid _ := hpt
          have hyb : Hid (v.all y.b ∧ y.b ≠ ob) := by
            obtain ⟨f1, f2, f3⟩ := HYW.out
            have h1 : v.all y.b := .inl (.inl (.inr (.inr (.inr (.inr (.inr ⟨y.i, f1, f2⟩))))))
            exact ⟨h1, fun e => hobA.out.2.2.2 (by rw [← e]; exact h1)⟩
          clear hpt hc hcell hkf
          go_wp2
          refine MixH.start (fun x => WnAt x A y ∧ x.heap[O + 1]? = some (.cells (opC 10 two i n (some ⟨ob, off, none⟩) fl oc) 68 (0, 0)) ∧ x.cell? ⟨ob, off + k, none⟩ = some (.int .u8 (c : Int))) (by kernel_rfl) ?_
          obtain ⟨wA, hwA⟩ : ∃ wA, wA = wr.drew := ⟨_, rfl⟩
          have hS : WnAt wA A y ∧ wA.heap[O + 1]? = some (.cells (opC 10 two i n (some ⟨ob, off, none⟩) fl oc) 68 (0, 0)) ∧ wA.cell? ⟨ob, off + k, none⟩ = some (.int .u8 (c : Int)) := by rw [hwA]; exact ⟨ST.out.1.win, hopr, hcr⟩
          have SA : Hid (Wt B F w wA v O A C y s r) := by rw [hwA]; exact ST.out.1.drew
          have czA : wA.cell? ⟨y.b, p, none⟩ = some z := by rw [hwA]; exact cz
          have fzA : wA.frozen? ⟨y.b, p, none⟩ = false := by rw [hwA]; exact fz
          rw [← hwA] at HPT ⊢
          clear hwA cz fz hcr hopr cn1 cb1 cw0
          refine MixH.takes [true, false, true, true, false, true] 6 (by kernel_rfl) (by kernel_rfl) (by decide) (by kernel_rfl) hS (fun K hK => ?_)
          simp only [Mix.pick]
          repeat (go_big_quiet_step (fail))
          refine wpQuiet_nil (hK _ ?_)
          clear hK K
          refine MixH.take 5 1 _ (.slice (some ⟨y.b, 0, none⟩) y.n y.n) rfl (by kernel_rfl) (by kernel_rfl) (by kernel_rfl) (by kernel_rfl) (yields_bytes (.tmp 39) rfl A 0 (.slice (some ⟨y.b, 0, none⟩) y.n y.n) rfl rfl (fun _ h => h.1.c0)) hS (fun a' ha => ?_)
          simp only [Act.put, List.setIfInBounds_toArray, List.set_cons_succ, List.set_cons_zero] at ha
          subst ha
          refine MixH.take 4 4 _ (.slice (some ⟨ob, off, none⟩) fl oc) rfl (by kernel_rfl) (by kernel_rfl) (by kernel_rfl) (by kernel_rfl) (yields_bytes (.tmp 42) rfl (O + 1) 4 (.slice (some ⟨ob, off, none⟩) fl oc) rfl rfl (fun _ h => by simp [World.cell?, h.2.1, opC])) hS (fun a' ha => ?_)
          simp only [Act.put, List.setIfInBounds_toArray, List.set_cons_succ, List.set_cons_zero] at ha
          subst ha
          refine MixH.takes [false, false, false, false, false, false, true] 3 (by kernel_rfl) (by kernel_rfl) (by decide) (by kernel_rfl) hS (fun K hK => ?_)
          simp only [Mix.pick]
          repeat (go_big_quiet_step (fail))
          refine wpQuiet_nil (hK _ ?_)
          clear hK K
          refine MixH.take 2 7 _ (.int .u8 (c : Int)) rfl (by kernel_rfl) (by kernel_rfl) (by kernel_rfl) (by kernel_rfl) (yields_u8 (.tmp 45) rfl ob (off + k) (.int .u8 (c : Int)) rfl rfl (fun _ h => h.2.2)) hS (fun a' ha => ?_)
          simp only [Act.put, List.setIfInBounds_toArray, List.set_cons_succ, List.set_cons_zero] at ha
          subst ha
          refine MixH.takes [false, false, false, false, false, false, false, false, true] 1 (by kernel_rfl) (by kernel_rfl) (by decide) (by kernel_rfl) hS (fun K hK => ?_)
          simp only [Mix.pick]
          repeat (go_big_quiet_step (fail))
          refine wpQuiet_nil (hK _ ?_)
          clear hK K
          refine MixH.one [false, false, false, false, false, false, false, false, false, true] 0 9 _ rfl rfl (by kernel_rfl) (by kernel_rfl) (fun K hK => ?_)
          simp only [Mix.pick]
          have kb : Ch (fun q => q = y.b) wA (wA.setCell ⟨y.b, p, none⟩ (.int .u8 (c : Int))) := (Ch.refl _ wA).set _ _ rfl
          have hold := SA.out.lw.loc.old
          have hbN : Hid (¬ y.b = O ∧ ¬ y.b = O + 1 ∧ ¬ y.b = A) := by
            have h1 := hold y.b hyb.out.1
            have h2 := HO.out
            have h3 := HA.out
            exact ⟨by omega, by omega, by omega⟩
          have hboxB0 : SdAt (wA.setCell ⟨y.b, p, none⟩ (.int .u8 (c : Int))) O { v with r := r } := SA.out.box.ch kb (fun e => hbN.out.1 e.symm)
          obtain ⟨wB, hwB⟩ : ∃ wB, wB = wA.setCell ⟨y.b, p, none⟩ (.int .u8 (c : Int)) := ⟨_, rfl⟩
          rw [← hwB] at hboxB0 HPT kb
          have hS2 : WnAt wB A y ∧ wB.heap[O + 1]? = some (.cells (opC 10 two i n (some ⟨ob, off, none⟩) fl oc) 68 (0, 0)) ∧ wB.cell? ⟨ob, off + k, none⟩ = some (.int .u8 (c : Int)) := ⟨hS.1.ch kb (fun e => hbN.out.2.2 e.symm), (kb.block (O + 1) (Array.getElem?_eq_some_iff.1 hS.2.1).1 (fun e => hbN.out.2.1 e.symm)).trans hS.2.1, kb.cell hS.2.2 (fun e => hyb.out.2 e.symm)⟩
          have HBB : Hid (SdAt wB O { v with r := r }) := hboxB0
          clear kb hold hboxB0
          go_wp2
          rw [← hwB]
          clear hwB hS
          have hS := hS2
          clear hS2
          refine ⟨rfl, hK _ _ hS ?_⟩
          clear hK K
          refine MixH.done (by kernel_rfl) ?_
          have hboxB := HBB.out
          go_wp2
          refine MixH.start (fun x => WnAt x A y ∧ x.heap[O + 1]? = some (.cells (opC 10 two i n (some ⟨ob, off, none⟩) fl oc) 68 (0, 0)) ∧ x.cell? ⟨ob, off + k, none⟩ = some (.int .u8 (c : Int))) (by kernel_rfl) ?_
          obtain ⟨wC, hwC⟩ : ∃ wC, wC = wB.drew := ⟨_, rfl⟩
          replace hS : WnAt wC A y ∧ wC.heap[O + 1]? = some (.cells (opC 10 two i n (some ⟨ob, off, none⟩) fl oc) 68 (0, 0)) ∧ wC.cell? ⟨ob, off + k, none⟩ = some (.int .u8 (c : Int)) := by rw [hwC]; exact hS
          have hboxC : SdAt wC O { v with r := r } := by rw [hwC]; exact hboxB
          have HPC : Hid (Pt wA wC { v with s := s, r := r } { s with da := updF s.da y.i ((s.da y.i).set p c) }) := by
            rw [hwC]
            exact ⟨HPT.out.pl.trans (Played.none HPT.out.pl.port HPT.out.pl.inv (Below.refl wB.heap.size wB).drew), HPT.out.bb⟩
          rw [← hwC]
          obtain ⟨V, hV⟩ : ∃ V : SV, V = { v with r := r } := ⟨_, rfl⟩
          rw [← hV] at hboxC
          have HV : Hid (V = { v with r := r }) := hV
          have Q2 : Hid _ := writeR_u SA.out.lw.loc.ok HYI.out.1 HYI.out.2.2 hc256 HPC.out
          simp only at Q2
          have HVR : Hid (V.r = r) := by show _ = _; rw [hV]
          clear hwC hboxB HPT hV
          refine MixH.takes [true, false, true, false, true, true, false, true] 8 (by kernel_rfl) (by kernel_rfl) (by decide) (by kernel_rfl) hS (fun K hK => ?_)
          simp only [Mix.pick]
          repeat (go_big_quiet_step (fail))
          refine wpQuiet_nil (hK _ ?_)
          clear hK K
          refine MixH.take 7 3 _ (.int .i64 y.i) rfl (by kernel_rfl) (by kernel_rfl) (by kernel_rfl) (by kernel_rfl) (yields_int (.tmp 50) rfl A 1 (.int .i64 y.i) rfl rfl (fun _ h => h.1.c1)) hS (fun a' ha => ?_)
          simp only [Act.put, List.setIfInBounds_toArray, List.set_cons_succ, List.set_cons_zero] at ha
          subst ha
          refine MixH.take 6 6 _ (.slice (some ⟨ob, off, none⟩) fl oc) rfl (by kernel_rfl) (by kernel_rfl) (by kernel_rfl) (by kernel_rfl) (yields_bytes (.tmp 53) rfl (O + 1) 4 (.slice (some ⟨ob, off, none⟩) fl oc) rfl rfl (fun _ h => by simp [World.cell?, h.2.1, opC])) hS (fun a' ha => ?_)
          simp only [Act.put, List.setIfInBounds_toArray, List.set_cons_succ, List.set_cons_zero] at ha
          subst ha
          refine MixH.takes [false, false, false, false, false, false, false, false, true] 5 (by kernel_rfl) (by kernel_rfl) (by decide) (by kernel_rfl) hS (fun K hK => ?_)
          simp only [Mix.pick]
          repeat (go_big_quiet_step (fail))
          refine wpQuiet_nil (hK _ ?_)
          clear hK K
          refine MixH.take 4 9 _ (.int .u8 (c : Int)) rfl (by kernel_rfl) (by kernel_rfl) (by kernel_rfl) (by kernel_rfl) (yields_u8 (.tmp 56) rfl ob (off + k) (.int .u8 (c : Int)) rfl rfl (fun _ h => h.2.2)) hS (fun a' ha => ?_)
          simp only [Act.put, List.setIfInBounds_toArray, List.set_cons_succ, List.set_cons_zero] at ha
          subst ha
          refine MixH.one [false, true] 3 1 _ rfl rfl (by kernel_rfl) (by kernel_rfl) (fun K hK => ?_)
          simp only [Mix.pick]
          refine wpList_load_sr (.tmp 48) rfl O V rfl hboxC rfl ?_
          rw [HVR.out]
          go_wp2
          refine ⟨rfl, hK _ _ hS ?_⟩
          clear hK K
          refine MixH.one [false, false, false, false, false, false, false, false, false, false, true] 2 10 _ rfl rfl (by kernel_rfl) (by kernel_rfl) (fun K hK => ?_)
          simp only [Mix.pick]
          go_wp2_with fail
          refine Calls.mono Q2.out ?_
          rintro e w2 ⟨r2, rfl, nx, hnw⟩
          have hboxD := hboxC.below nx.bel
          replace hS : WnAt w2 A y ∧ w2.heap[O + 1]? = some (.cells (opC 10 two i n (some ⟨ob, off, none⟩) fl oc) 68 (0, 0)) ∧ w2.cell? ⟨ob, off + k, none⟩ = some (.int .u8 (c : Int)) := ⟨WnAt.ch hS.1 (Ch.ofBelow (S := fun _ => False) nx.bel) id, (nx.bel.block (O + 1) (Array.getElem?_eq_some_iff.1 hS.2.1).1).trans hS.2.1, (nx.bel.cell (p := ⟨ob, off + k, none⟩) (World.block_lt_of_cell? _ _ hS.2.2)).trans hS.2.2⟩
          have HNX : Hid _ := nx
          have HNW : Hid (r2.now = r.now) := hnw
          clear Q2 nx hnw hboxC
          go_wp2
          refine ⟨rfl, hK _ _ hS ?_⟩
          clear hK K
          refine MixH.takes [false, false, false, false, false, false, false, false, false, false, false, true] 1 (by kernel_rfl) (by kernel_rfl) (by decide) (by kernel_rfl) hS (fun K hK => ?_)
          simp only [Mix.pick]
          repeat (go_big_quiet_step (fail))
          refine wpQuiet_nil (hK _ ?_)
          clear hK K
          refine MixH.one [false, false, false, false, false, false, false, false, false, false, false, false, true] 0 12 _ rfl rfl (by kernel_rfl) (by kernel_rfl) (fun K hK => ?_)
          simp only [Mix.pick]
          refine wpList_store_sr (.tmp 59) (.tmp 58) rfl rfl O V r2 rfl rfl hboxD rfl ?_
          intro w3' hb3 k3
          have TN : Hid (Wt B F w w3' v O A C y { s with da := updF s.da y.i ((s.da y.i).set p c) } r2) := SA.out.next HO.out HA.out.1 HA.out.2 HPC.out HNX.out HNW.out (by rw [HV.out] at hb3; exact hb3) k3
          replace hS : WnAt w3' A y ∧ w3'.heap[O + 1]? = some (.cells (opC 10 two i n (some ⟨ob, off, none⟩) fl oc) 68 (0, 0)) ∧ w3'.cell? ⟨ob, off + k, none⟩ = some (.int .u8 (c : Int)) := ⟨hS.1.ch k3 (by have := HA.out; show ¬ A = O; omega), (k3.block (O + 1) (Array.getElem?_eq_some_iff.1 hS.2.1).1 (show ¬ O + 1 = O by omega)).trans hS.2.1, k3.cell hS.2.2 hobA.out.1⟩
          clear k3 hb3 hboxD
          go_wp2
          refine ⟨rfl, hK _ _ hS ?_⟩
          clear hK K
          refine MixH.done (by kernel_rfl) ?_
          go_wp2
          go_roundw
          case rel => exact ⟨k + 1, _, r2, by omega, by go_num, TN.out, ST.out.2.1, ST.out.2.2.1, ST.out.2.2.2⟩
          case measure => simp [intOf]; omega
        · clear cn1 cb1 hopr
          go_wp2
          go_roundw
          case rel => exact ⟨k + 1, s, r, by omega, by go_num, ST⟩
          case measure => simp [intOf]; omega
      · clear cn1 cb1 hopr
        go_wp2
        go_roundw
        case rel => exact ⟨k + 1, s, r, by omega, by go_num, ST⟩
        case measure => simp [intOf]; omega
    · have hlt' : ¬ ((k : Int) < (fl : Int)) := by omega
      have hwinr : ∃ (d : List Nat), d.length = y.n ∧ Seg .u8 (wr.alloc (.cells #[.int .u8 77, .int .u8 78] 5)) (some ⟨y.b, 0, none⟩) (toI d) := by
        obtain ⟨T, e1, e2, e3⟩ := ST.out
        obtain ⟨f1, f2, f3⟩ := HYW.out
        obtain ⟨hl, d, d1, d2, d3, d4, d5⟩ := T.lw.loc.ok.win (i := y.i) (b := y.b) (n := y.n) (by show y.i < s.pool; rw [e1]; exact f1) (by show s.bb y.i = _; rw [e2]; exact f2) (by show y.n ≤ s.size; rw [e3]; exact f3)
        exact ⟨d, d1, d3.old ((Below.refl _ _).alloc (Nat.le_refl _) _)⟩
      obtain ⟨d, hdl, hds⟩ := hwinr
      have HDL : Hid (d.length = y.n) := hdl
      have HDS : Hid (Seg .u8 (wr.alloc (.cells #[.int .u8 77, .int .u8 78] 5)) (some ⟨y.b, 0, none⟩) (toI d)) := hds
      have hyn : y.n ≤ 65535 := by obtain ⟨f1, f2, f3⟩ := HYW.out; have := HSZ2.out; omega
      have hbA : Below wr.heap.size wr (wr.alloc (.cells #[.int .u8 77, .int .u8 78] 5)) := (Below.refl _ _).alloc (Nat.le_refl _) _
      clear hopr cn1 hlt hdl hds
      go_wp2_with (first | (at_builtin; refine wpList_append_full rfl (.tmp 61) (.tmp 62) 43 rfl 5 j0 (.int .u8 0) 1 Try.underlying43 hji jz0 jz1 jz2 rfl .u8 ⟨y.b, 0, none⟩ y.n (toI d) rfl (by rw [toI_len]; exact HDL.out) HDS.out ⟨wr.heap.size, 0, none⟩ 2 2 [.int .u8 77, .int .u8 78] rfl rfl (news2 _ _ _ _) (by decide) (by unfold maxLen; omega) (by omega) ?_))
      intro u w5 ho5 hg5
      have hb5 : Below wr.heap.size wr w5 := hbA.grown hg5 hbA.size (by intro q hq; cases hq)
      obtain ⟨g5, c5, rfl⟩ := owns_pos ho5 (by omega)
      obtain ⟨M, hM⟩ : ∃ M, M = y.n + 1 := ⟨_, rfl⟩
      have e2 : y.n + 2 = M + 1 := by omega
      rw [e2] at ho5 ⊢
      have c5' := ho5.cellAt M (by omega)
      have f5 := ho5.frozenAt M
      have hML : M < (List.map (Value.int .u8) (toI d) ++ [Value.int .u8 77, Value.int .u8 78]).length := by rw [List.length_append, List.length_map, toI_len, HDL.out]; simp; omega
      rw [List.getElem?_eq_getElem hML] at c5'
      obtain ⟨z, hz⟩ : ∃ z, z = (List.map (Value.int .u8) (toI d) ++ [Value.int .u8 77, Value.int .u8 78])[M]'hML := ⟨_, rfl⟩
      rw [← hz] at c5'
      have hg5l := (ho5.lt g5 rfl).1
      have k6 : Ch (fun q => q = g5) w5 (w5.setCell ⟨g5, M, none⟩ (.int .u8 79)) := (Ch.refl _ w5).set _ _ rfl
      have hb6 : Below wr.heap.size wr (w5.setCell ⟨g5, M, none⟩ (.int .u8 79)) := hb5.trans (k6.below (fun q e => by have e' : q = g5 := e; (try simp at hg5l); omega) hb5.size)
      have HB6 : Hid _ := hb6
      have hM0 : M ≤ 65536 := by omega
      have m1 : IntKind.i64.wrap (((M + 1 : Nat) : Int) - 1) = (M : Int) := by rw [i64_mid _ (by omega) (by omega)]; omega
      have m2 : (((M + 1 : Nat) : Int)) - 1 = (M : Int) := by omega
      have m3 : ((M : Int)).toNat = M := by omega
      clear ho5 hg5 hb5 hbA hz hML hg5l k6 hb6 hM e2 cb1 cw0
      obtain ⟨w6, hw6⟩ : ∃ w6, w6 = w5.setCell ⟨g5, M, none⟩ (.int .u8 79) := ⟨_, rfl⟩
      rw [← hw6] at HB6
      have hbox6 : SdAt w6 O { v with r := r } := ST.out.1.box.below HB6.out
      have hres6 : w6.heap[O + 2]? = some (.cells zS 29 (0, 0)) := (HB6.out.block (O + 2) (Array.getElem?_eq_some_iff.1 ST.out.1.res).1).trans ST.out.1.res
      have HL6 : Hid _ := ST.out.1.lw.loc.below HB6.out
      have HNW : Hid (r.now ≤ v.r.now + 8192) := by show _ ≤ _; rw [ST.out.1.now]; omega
      obtain ⟨V, hV⟩ : ∃ V : SV, V = { v with r := r } := ⟨_, rfl⟩
      rw [← hV] at hbox6
      have HV : Hid (V = { v with r := r }) := hV
      rw [hw6] at hbox6 hres6 HL6
      clear hV hw6
      go_wp2_with (first | (refine wpList_load_sd (.tmp 2) rfl O V rfl hbox6 rfl ?_) | (refine wpList_store_sd (.tmp 4) (.tmp 72) rfl rfl (O + 2) zS rfl V rfl rfl hres6 rfl ?_))
      intro w7 hR7 k7
      have HR7 : Hid (SdAt w7 (O + 2) V) := hR7
      have HL7 : Hid _ := HL6.out.set (X := O + 2) (by have := HO.out; omega) (by have := HA.out; omega) k7
      clear k7 hR7 hbox6 hres6
      go_wp2
      (try simp only [Exit.inBlock, Exit.then])
      refine bodyPost_ret (v := .agg V.cells) ?_ rfl ?_
      · exact results_cell_row rfl _ _ (O + 2) 29 _ _ _ rfl HR7.out Try.underlying29 rfl Try.sizeSide
      exact ⟨_, by rw [HV.out]; rfl, HL7.out.fin HNW.out (Nat.le_succ _), rfl⟩
end Go.Proofs.Ythknkfggpdhdbaa
