/-
  l4.segment, l4.ParseTcp.
-/
import Derived.Test.YtfoeepbndfnifaaDoorL9PU
namespace Go.Proofs.YtfoeepbndfnifaaDoor
open Go.RowKit
open L4 (U9 T9)

theorem TAt.set7 {w : World} {O : Nat} {t : T9} {la : Option Addr} {ln lc : Nat} {da : Option Addr} {n c : Nat} (k : TAt w O t la ln lc da n c) (la' : Option Addr) (ln' lc' : Nat) : TAt (w.setCell ⟨O, 7, none⟩ (.slice la' ln' lc')) O t la' ln' lc' da n c ∧ Ch (fun q => q = O) w (w.setCell ⟨O, 7, none⟩ (.slice la' ln' lc')) := by
  refine ⟨?_, (Ch.refl (fun q => q = O) w).set _ _ rfl⟩
  unfold TAt at k ⊢
  rw [heap_setCell_same _ _ _ _ _ _ k]
  rfl
theorem TAt.set8 {w : World} {O : Nat} {t : T9} {la : Option Addr} {ln lc : Nat} {da : Option Addr} {n c : Nat} (k : TAt w O t la ln lc da n c) (da' : Option Addr) (n' c' : Nat) : TAt (w.setCell ⟨O, 8, none⟩ (.slice da' n' c')) O t la ln lc da' n' c' ∧ Ch (fun q => q = O) w (w.setCell ⟨O, 8, none⟩ (.slice da' n' c')) := by
  refine ⟨?_, (Ch.refl (fun q => q = O) w).set _ _ rfl⟩
  unfold TAt at k ⊢
  rw [heap_setCell_same _ _ _ _ _ _ k]
  rfl
set_option maxHeartbeats 1600000 in
set_option maxRecDepth 100000 in
theorem segment_any (g c : Nat) (os : List (Int × List Nat)) (d : List Nat) (q0 q1 q2 q3 q4 q5 q6 : Nat) (w : World) (hg : g < w.heap.size) (c0 : w.cell? ⟨g, 0, none⟩ = some (.int .i64 (q0 : Nat))) (c1 : w.cell? ⟨g, 1, none⟩ = some (.int .i64 (q1 : Nat))) (c2 : w.cell? ⟨g, 2, none⟩ = some (.int .i64 (q2 : Nat))) (c3 : w.cell? ⟨g, 3, none⟩ = some (.int .i64 (q3 : Nat))) (c4 : w.cell? ⟨g, 6, none⟩ = some (.int .i64 (q4 : Nat))) (c5 : w.cell? ⟨g, 7, none⟩ = some (.int .i64 (q5 : Nat))) (c6 : w.cell? ⟨g, 9, none⟩ = some (.int .i64 (q6 : Nat))) :
    Calls Tryd.prog 37 #[.slice (some ⟨g, 0, none⟩) 10 c] w fun e w' => e = .returned (.agg (tC ⟨(q0 : Nat), (q1 : Nat), (q2 : Nat), (q3 : Nat), (q4 : Nat), (q5 : Nat), (q6 : Nat), os, d⟩ none 0 0 none 0 0)) ∧ Below w.heap.size w w' := by
  have hb : Below w.heap.size w (w.alloc (.cells (tC t9z none 0 0 none 0 0) 45)) := (Below.refl _ _).alloc (Nat.le_refl _) _
  have hn := tAt_new w t9z none 0 0 none 0 0
  have HGO : Hid (g ≠ w.heap.size) := Nat.ne_of_lt hg
  have HC0 : Hid ((w.alloc (.cells (tC t9z none 0 0 none 0 0) 45)).cell? ⟨g, 0, none⟩ = some (.int .i64 (q0 : Nat))) := (hb.cell (p := ⟨g, 0, none⟩) hg).trans c0
  have HC1 : Hid ((w.alloc (.cells (tC t9z none 0 0 none 0 0) 45)).cell? ⟨g, 1, none⟩ = some (.int .i64 (q1 : Nat))) := (hb.cell (p := ⟨g, 1, none⟩) hg).trans c1
  have HC2 : Hid ((w.alloc (.cells (tC t9z none 0 0 none 0 0) 45)).cell? ⟨g, 2, none⟩ = some (.int .i64 (q2 : Nat))) := (hb.cell (p := ⟨g, 2, none⟩) hg).trans c2
  have HC3 : Hid ((w.alloc (.cells (tC t9z none 0 0 none 0 0) 45)).cell? ⟨g, 3, none⟩ = some (.int .i64 (q3 : Nat))) := (hb.cell (p := ⟨g, 3, none⟩) hg).trans c3
  have HC4 : Hid ((w.alloc (.cells (tC t9z none 0 0 none 0 0) 45)).cell? ⟨g, 6, none⟩ = some (.int .i64 (q4 : Nat))) := (hb.cell (p := ⟨g, 6, none⟩) hg).trans c4
  have HC5 : Hid ((w.alloc (.cells (tC t9z none 0 0 none 0 0) 45)).cell? ⟨g, 7, none⟩ = some (.int .i64 (q5 : Nat))) := (hb.cell (p := ⟨g, 7, none⟩) hg).trans c5
  have HC6 : Hid ((w.alloc (.cells (tC t9z none 0 0 none 0 0) 45)).cell? ⟨g, 9, none⟩ = some (.int .i64 (q6 : Nat))) := (hb.cell (p := ⟨g, 9, none⟩) hg).trans c6
  have HB : Hid _ := hb
  have HN : Hid _ := hn
  clear c0 c1 c2 c3 c4 c5 c6 hb hn hg
  go_enter Tryd.func37, Tryd.ntmps37
  go_upto_region 1 with fail
  refine MixH.start (fun A => Ch (fun q => q = w.heap.size) (w.alloc (.cells (tC t9z none 0 0 none 0 0) 45)) A) (by kernel_rfl) ?_
  obtain ⟨wA, hwA⟩ : ∃ wA, wA = (w.alloc (.cells (tC t9z none 0 0 none 0 0) 45)).drew := ⟨_, rfl⟩
  have hS : Ch (fun q => q = w.heap.size) (w.alloc (.cells (tC t9z none 0 0 none 0 0) 45)) wA := by rw [hwA]; exact (Ch.refl _ _).drew
  have HRA : Hid (TAt wA w.heap.size t9z none 0 0 none 0 0) := by rw [hwA]; exact HN.out
  have hwA2 : (w.alloc (.cells #[.int .i64 0, .int .i64 0, .int .i64 0, .int .i64 0, .int .i64 0, .int .i64 0, .int .i64 0, .slice none 0 0, .slice none 0 0] 45)).drew = wA := hwA.symm
  (first | rw [hwA2] | rw [← hwA])
  clear hwA hwA2 HN
  refine MixH.takes [true, true, false, true, true, false, true, true, false, true, true, false, true, true, false, true, true, false, true, true] 9 (by kernel_rfl) (by kernel_rfl) (by decide) (by kernel_rfl) hS (fun K hK => ?_)
  simp only [Mix.pick]
  repeat (go_big_quiet_step (fail))
  refine wpQuiet_nil (hK _ ?_)
  clear hK K
  refine MixH.take 8 2 _ (.int .i64 (q0 : Nat)) rfl (by kernel_rfl) (by kernel_rfl) (by kernel_rfl) (by kernel_rfl) (yields_int (.tmp 4) rfl ⟨g, 0, none⟩ _ rfl rfl (fun A hA => hA.cell HC0.out HGO.out)) hS (fun a' ha => ?_)
  simp only [Act.put, List.setIfInBounds_toArray, List.set_cons_succ, List.set_cons_zero] at ha
  subst ha
  refine MixH.take 7 5 _ (.int .i64 (q1 : Nat)) rfl (by kernel_rfl) (by kernel_rfl) (by kernel_rfl) (by kernel_rfl) (yields_int (.tmp 7) rfl ⟨g, 1, none⟩ _ rfl rfl (fun A hA => hA.cell HC1.out HGO.out)) hS (fun a' ha => ?_)
  simp only [Act.put, List.setIfInBounds_toArray, List.set_cons_succ, List.set_cons_zero] at ha
  subst ha
  refine MixH.take 6 8 _ (.int .i64 (q2 : Nat)) rfl (by kernel_rfl) (by kernel_rfl) (by kernel_rfl) (by kernel_rfl) (yields_int (.tmp 10) rfl ⟨g, 2, none⟩ _ rfl rfl (fun A hA => hA.cell HC2.out HGO.out)) hS (fun a' ha => ?_)
  simp only [Act.put, List.setIfInBounds_toArray, List.set_cons_succ, List.set_cons_zero] at ha
  subst ha
  refine MixH.take 5 11 _ (.int .i64 (q3 : Nat)) rfl (by kernel_rfl) (by kernel_rfl) (by kernel_rfl) (by kernel_rfl) (yields_int (.tmp 13) rfl ⟨g, 3, none⟩ _ rfl rfl (fun A hA => hA.cell HC3.out HGO.out)) hS (fun a' ha => ?_)
  simp only [Act.put, List.setIfInBounds_toArray, List.set_cons_succ, List.set_cons_zero] at ha
  subst ha
  refine MixH.take 4 14 _ (.int .i64 (q4 : Nat)) rfl (by kernel_rfl) (by kernel_rfl) (by kernel_rfl) (by kernel_rfl) (yields_int (.tmp 16) rfl ⟨g, 6, none⟩ _ rfl rfl (fun A hA => hA.cell HC4.out HGO.out)) hS (fun a' ha => ?_)
  simp only [Act.put, List.setIfInBounds_toArray, List.set_cons_succ, List.set_cons_zero] at ha
  subst ha
  refine MixH.take 3 17 _ (.int .i64 (q5 : Nat)) rfl (by kernel_rfl) (by kernel_rfl) (by kernel_rfl) (by kernel_rfl) (yields_int (.tmp 19) rfl ⟨g, 7, none⟩ _ rfl rfl (fun A hA => hA.cell HC5.out HGO.out)) hS (fun a' ha => ?_)
  simp only [Act.put, List.setIfInBounds_toArray, List.set_cons_succ, List.set_cons_zero] at ha
  subst ha
  refine MixH.take 2 20 _ (.int .i64 (q6 : Nat)) rfl (by kernel_rfl) (by kernel_rfl) (by kernel_rfl) (by kernel_rfl) (yields_int (.tmp 22) rfl ⟨g, 9, none⟩ _ rfl rfl (fun A hA => hA.cell HC6.out HGO.out)) hS (fun a' ha => ?_)
  simp only [Act.put, List.setIfInBounds_toArray, List.set_cons_succ, List.set_cons_zero] at ha
  subst ha
  refine MixH.takes [false, false, false, false, false, false, false, false, false, false, false, false, false, false, false, false, false, false, false, false, false, true] 1 (by kernel_rfl) (by kernel_rfl) (by decide) (by kernel_rfl) hS (fun K hK => ?_)
  simp only [Mix.pick]
  repeat (go_big_quiet_step (fail))
  refine wpQuiet_nil (hK _ ?_)
  clear hK K
  refine MixH.one [false, false, false, false, false, false, false, false, false, false, false, false, false, false, false, false, false, false, false, false, false, false, true] 0 22 _ rfl rfl (by kernel_rfl) (by kernel_rfl) (fun K hK => ?_)
  simp only [Mix.pick]
  go_wp2_with (first | (refine wpList_store_t9 (.tmp 2) (.tmp 24) rfl rfl w.heap.size t9z none 0 0 none 0 0 ⟨(q0 : Nat), (q1 : Nat), (q2 : Nat), (q3 : Nat), (q4 : Nat), (q5 : Nat), (q6 : Nat), os, d⟩ none 0 0 none 0 0 rfl rfl HRA.out rfl ?_))
  intro wE hRE kE
  have HRE : Hid (TAt wE w.heap.size ⟨(q0 : Nat), (q1 : Nat), (q2 : Nat), (q3 : Nat), (q4 : Nat), (q5 : Nat), (q6 : Nat), os, d⟩ none 0 0 none 0 0) := hRE
  replace hS : Ch (fun q => q = w.heap.size) (w.alloc (.cells (tC t9z none 0 0 none 0 0) 45)) wE := hS.trans kE (fun x _ h => h)
  clear hRE kE
  go_wp2
  refine ⟨rfl, hK _ _ hS ?_⟩
  clear hK K
  refine MixH.done (by kernel_rfl) ?_
  have HFE : Hid (Below w.heap.size w wE) := HB.out.trans (hS.below (fun q e => by have e' : q = w.heap.size := e; omega) (by simp))
  clear hS
  go_wp2
  (try simp only [Exit.inBlock, Exit.then])
  refine bodyPost_ret (v := .agg (tC ⟨(q0 : Nat), (q1 : Nat), (q2 : Nat), (q3 : Nat), (q4 : Nat), (q5 : Nat), (q6 : Nat), os, d⟩ none 0 0 none 0 0)) ?_ rfl ?_
  · exact results_cell_row rfl _ _ w.heap.size 45 _ _ _ rfl HRE.out Tryd.underlying45 rfl Tryd.sizeT9
  exact ⟨rfl, HFE.out⟩
/-- the row behind the bare header -/
def a20 (a : Option Addr) (cap : Nat) : Option Addr := if cap = 20 then a else a.map (fun x => { block := x.block, off := x.off + 20 })
/-- what ParseTcp answers: the segment's cells -/
def ptC (er : Nat) (la : Option Addr) (ln lc : Nat) (a : Option Addr) (bs : List Nat) : Array Value := if er = 0 then tC (L4.tP bs) la ln lc (cutA a (L4.tH bs) (bs.length - L4.tH bs)) (bs.length - L4.tH bs) (bs.length - L4.tH bs) else tC t9z none 0 0 none 0 0
set_option maxHeartbeats 6400000 in
set_option maxRecDepth 100000 in
theorem parseT_any (V U : Int) (x y : Nat → Nat) (a : Option Addr) (n cap : Nat) (bs : List Nat) (w : World) (hw : TW w) (hlw : LW w) (hd : DOk w bs a n cap) (hx : ∀ i, i < 16 → x i < 256) (hy : ∀ i, i < 16 → y i < 256) :
    Calls Tryd.prog 9 #[.agg (ipCells V x), .agg (ipCells U y), .slice a n cap] w fun e w' => ∃ er la ln lc, e = .returned (.tuple #[.agg (ptC er la ln lc a bs), .int .i64 (er : Nat)]) ∧ Below w.heap.size w w' ∧ er = L4.tPE (psOk V U x y) (psL V U x y 6 (n : Nat)) bs ∧ (er = 0 → ∃ os, L4.readO (L4.tOb bs) = some os ∧ ln = os.length ∧ w'.ownsRow w.heap.size 68 2 (.slice la ln lc) ln (opsC (a20 a cap) os)) := by
  obtain ⟨A, hA⟩ : ∃ A, A = ipCells V x := ⟨_, rfl⟩
  obtain ⟨C, hC⟩ : ∃ C, C = ipCells U y := ⟨_, rfl⟩
  have hx1 := boxed_new w V x 24
  have hy1 := boxed_new (w.alloc (.cells (ipCells V x) 24)) U y 24
  rw [World.size_alloc] at hy1
  have hx2 := hx1.old ((Below.refl _ _).alloc (Nat.le_refl _) (.cells (ipCells U y) 24))
  clear hx1
  rw [← hA] at hx2 hy1 ⊢
  rw [← hC] at hx2 hy1 ⊢
  have s2 : ((w.alloc (.cells A 24)).alloc (.cells C 24)).heap.size = w.heap.size + 1 + 1 := by simp
  have hr := tAt_new ((w.alloc (.cells A 24)).alloc (.cells C 24)) t9z none 0 0 none 0 0
  rw [s2] at hr
  have b3 : Below ((w.alloc (.cells A 24)).alloc (.cells C 24)).heap.size ((w.alloc (.cells A 24)).alloc (.cells C 24)) (((w.alloc (.cells A 24)).alloc (.cells C 24)).alloc (.cells (tC t9z none 0 0 none 0 0) 45)) := (Below.refl _ _).alloc (Nat.le_refl _) _
  have hx3 := hx2.old b3
  have hy3 := hy1.old b3
  have bel : Below w.heap.size w (((w.alloc (.cells A 24)).alloc (.cells C 24)).alloc (.cells (tC t9z none 0 0 none 0 0) 45)) := (((Below.refl _ _).alloc (Nat.le_refl _) _).alloc (by simp) _).alloc (by simp; omega) _
  clear hx2 hy1 b3 s2
  obtain ⟨W, hW⟩ : ∃ W, W = ((w.alloc (.cells A 24)).alloc (.cells C 24)).alloc (.cells #[.int .i64 0, .int .i64 0, .int .i64 0, .int .i64 0, .int .i64 0, .int .i64 0, .int .i64 0, .slice none 0 0, .slice none 0 0] 45) := ⟨_, rfl⟩
  have hW2 : W = ((w.alloc (.cells A 24)).alloc (.cells C 24)).alloc (.cells (tC t9z none 0 0 none 0 0) 45) := hW
  rw [← hW2] at hr hx3 hy3 bel
  obtain ⟨B, hB⟩ : ∃ B, B = w.heap.size := ⟨_, rfl⟩
  have HB : Hid (w.heap.size = B) := hB.symm
  rw [← hB] at hr hx3 hy3
  obtain ⟨O, hO⟩ : ∃ O, O = B + 1 + 1 := ⟨_, rfl⟩
  rw [← hO] at hr
  have HW : Hid (((w.alloc (.cells A 24)).alloc (.cells C 24)).alloc (.cells #[.int .i64 0, .int .i64 0, .int .i64 0, .int .i64 0, .int .i64 0, .int .i64 0, .int .i64 0, .slice none 0 0, .slice none 0 0] 45) = W) := hW.symm
  have HO : Hid (B + 1 + 1 = O) := hO.symm
  have HO2 : Hid (w.heap.size + 2 = O) := by show _ = _; rw [hO, hB]
  have HR : Hid (TAt W O t9z none 0 0 none 0 0) := hr
  have HX : Hid (∀ i, i < 16 → x i < 256) := hx
  have HY : Hid (∀ i, i < 16 → y i < 256) := hy
  have HXB : Hid (Boxed W B V x) := hx3
  have HYB : Hid (Boxed W (B + 1) U y) := hy3
  clear hB hW hW2 hr hx3 hy3 hO hx hy hA hC
  have HD : Hid (∀ A, Below w.heap.size w A → DOk A bs a n cap) := fun A hA => hd.old hA
  have HN : Hid (bs.length = n) := hd.dl
  have h2 := hd.cap
  have h3 := hd.top
  have HWID : Hid (∀ A, Below w.heap.size w A → TW A) := fun A hA => hw.old hA
  have HLW : Hid (∀ A, Below w.heap.size w A → LW A) := fun A hA => hlw.old hA
  obtain ⟨E, hE⟩ : ∃ E, E = L4.tPE (psOk V U x y) (psL V U x y 6 (n : Nat)) bs := ⟨_, rfl⟩
  rw [← hE]
  have HEX : Hid _ := hE
  unfold L4.tPE at HEX
  rw [hd.dl] at HEX
  have QF : Hid _ := fit_any V U x y W
  have HG : Hid (psOk V U x y = true → n ≤ 65535 → ∀ A, Below w.heap.size w A → Calls Tryd.prog 32 #[.agg (ipCells V x), .agg (ipCells U y), .int .i64 6, .slice a n cap] A fun e w' => e = .returned (.bool (decide (S.fold (S.wv false (psL V U x y 6 (n : Nat) ++ bs)) = 65535))) ∧ Below A.heap.size A w') := fun hok h1 A hA => good9_any V U x y 6 a n cap bs A hok (by omega) h1 HX.out HY.out (hd.old hA)
  obtain ⟨ok, hok⟩ : ∃ ok, ok = psOk V U x y := ⟨_, rfl⟩
  rw [← hok] at QF HEX HG
  clear hok hE hw hd hlw
  by_cases c1 : 65535 < n
  · have c1' : (65535 : Int) < (n : Int) := by omega
    rw [if_pos c1] at HEX
    have HE : Hid (E = 2) := HEX.out
    clear c1 HEX
    go_enter Tryd.func9, Tryd.ntmps9
    go_upto_region 1 with fail
    rw [HB.out, HO.out, HW.out]
    go_wp2_with (first | (refine wpList_build0t rfl rfl ?_) | (refine wpList_store_t9 (.tmp 6) _ rfl rfl O t9z none 0 0 none 0 0 t9z none 0 0 none 0 0 rfl rfl HR.out rfl ?_))
    intro wE hRE kE
    have HRE : Hid (TAt wE O t9z none 0 0 none 0 0) := hRE
    have HFE : Hid (Below w.heap.size w wE) := bel.trans (kE.below (fun q e => by have e' : q = O := e; have := HO2.out; omega) bel.size)
    clear hRE kE
    go_wp2
    (try simp only [Exit.inBlock, Exit.then])
    refine bodyPost_ret (results_t9_tmp rfl _ _ O t9z none 0 0 none 0 0 rfl HRE.out) rfl ?_
    exact ⟨E, none, 0, 0, (by rw [HE.out]; rfl), HFE.out, rfl, (fun h => by rw [HE.out] at h; cases h)⟩
  rw [if_neg c1] at HEX
  have c1' : ¬ (65535 : Int) < (n : Int) := by omega
  have c1b : n ≤ 65535 := by omega
  clear c1
  go_enter Tryd.func9, Tryd.ntmps9
  go_upto_region 1 with fail
  rw [HB.out, HO.out, HW.out]
  go_wp2_with (first | (refine wpList_load_ip (.tmp 3) rfl B V x rfl HXB.out rfl ?_) | (refine wpList_load_ip (.tmp 4) rfl (B + 1) U y rfl HYB.out rfl ?_))
  refine Calls.mono QF.out ?_
  rintro e w1 ⟨rfl, hb1⟩
  have bel1 := bthen bel hb1
  have HR1 : Hid (TAt w1 O t9z none 0 0 none 0 0) := HR.out.below hb1
  have HX1 : Hid (Boxed w1 B V x) := HXB.out.old hb1
  have HY1 : Hid (Boxed w1 (B + 1) U y) := HYB.out.old hb1
  clear QF hb1 HXB HYB HR HW
  cases ok with
  | false =>
    have HE : Hid (E = 20) := HEX.out
    clear HEX
    go_wp2_with (first | (refine wpList_build0t rfl rfl ?_) | (refine wpList_store_t9 (.tmp 6) _ rfl rfl O t9z none 0 0 none 0 0 t9z none 0 0 none 0 0 rfl rfl HR1.out rfl ?_))
    intro wE hRE kE
    have HRE : Hid (TAt wE O t9z none 0 0 none 0 0) := hRE
    have HFE : Hid (Below w.heap.size w wE) := bel1.trans (kE.below (fun q e => by have e' : q = O := e; have := HO2.out; omega) bel1.size)
    clear hRE kE
    go_wp2
    (try simp only [Exit.inBlock, Exit.then])
    refine bodyPost_ret (results_t9_tmp rfl _ _ O t9z none 0 0 none 0 0 rfl HRE.out) rfl ?_
    exact ⟨E, none, 0, 0, (by rw [HE.out]; rfl), HFE.out, rfl, (fun h => by rw [HE.out] at h; cases h)⟩
  | true =>
  rw [if_pos rfl] at HEX
  have HGD2 : Hid _ := HG.out rfl c1b
  clear HG
  have g0 : w1.cell? ⟨1, 0, none⟩ = some (.int .i64 16) := HWID.out w1 bel1 0 _ rfl
  have g1 : w1.cell? ⟨1, 1, none⟩ = some (.int .i64 16) := HWID.out w1 bel1 1 _ rfl
  have g2 : w1.cell? ⟨1, 2, none⟩ = some (.int .i64 32) := HWID.out w1 bel1 2 _ rfl
  have g3 : w1.cell? ⟨1, 3, none⟩ = some (.int .i64 32) := HWID.out w1 bel1 3 _ rfl
  have g4 : w1.cell? ⟨1, 4, none⟩ = some (.int .i64 4) := HWID.out w1 bel1 4 _ rfl
  have g5 : w1.cell? ⟨1, 5, none⟩ = some (.int .i64 4) := HWID.out w1 bel1 5 _ rfl
  have g6 : w1.cell? ⟨1, 6, none⟩ = some (.int .i64 8) := HWID.out w1 bel1 6 _ rfl
  have g7 : w1.cell? ⟨1, 7, none⟩ = some (.int .i64 16) := HWID.out w1 bel1 7 _ rfl
  have g8 : w1.cell? ⟨1, 8, none⟩ = some (.int .i64 16) := HWID.out w1 bel1 8 _ rfl
  have g9 : w1.cell? ⟨1, 9, none⟩ = some (.int .i64 16) := HWID.out w1 bel1 9 _ rfl
  have HS8 : Hid _ := segT w1
  have hb2 : Below w1.heap.size w1 (w1.alloc (.cells #[.int .i64 16, .int .i64 16, .int .i64 32, .int .i64 32, .int .i64 4, .int .i64 4, .int .i64 8, .int .i64 16, .int .i64 16, .int .i64 16] 84)) := (Below.refl _ _).alloc (Nat.le_refl _) _
  have HB2 : Hid _ := hb2
  by_cases c8 : n < 20
  · rw [if_pos c8] at HEX
    have HE : Hid (E = 94) := HEX.out
    have QF : Hid _ := fieldsT_no a (some ⟨w1.heap.size, 0, none⟩) n cap _ HS8.out c8 h2 h3
    clear c8 HEX hb2
    go_wp2_with fail
    refine Calls.mono QF.out ?_
    rintro e w2 ⟨rfl, hb3⟩
    have hb3' := bthen HB2.out hb3
    have bel2 := bthen bel1 hb3'
    have HR2 : Hid (TAt w2 O t9z none 0 0 none 0 0) := HR1.out.below hb3'
    clear hb3 hb3' QF g0 g1 g2 g3 g4 g5 g6 g7 g8 g9 HR1
    go_wp2_with (first | (refine wpList_build0t rfl rfl ?_) | (refine wpList_store_t9 (.tmp 6) _ rfl rfl O t9z none 0 0 none 0 0 t9z none 0 0 none 0 0 rfl rfl HR2.out rfl ?_))
    intro wE hRE kE
    have HRE : Hid (TAt wE O t9z none 0 0 none 0 0) := hRE
    have HFE : Hid (Below w.heap.size w wE) := bel2.trans (kE.below (fun q e => by have e' : q = O := e; have := HO2.out; omega) bel2.size)
    clear hRE kE
    go_wp2
    (try simp only [Exit.inBlock, Exit.then])
    refine bodyPost_ret (results_t9_tmp rfl _ _ O t9z none 0 0 none 0 0 rfl HRE.out) rfl ?_
    exact ⟨E, none, 0, 0, (by rw [HE.out]; rfl), HFE.out, rfl, (fun h => by rw [HE.out] at h; cases h)⟩
  rw [if_neg c8] at HEX
  have h8 : 20 ≤ n := by omega
  have QF : Hid _ := fieldsT_ok a (some ⟨w1.heap.size, 0, none⟩) n cap bs _ HN.out (HD.out _ (bthen bel1 hb2)).seg (HD.out _ bel1).d256 HS8.out h8 h2 h3
  clear c8 hb2
  go_wp2_with fail
  refine Calls.mono QF.out ?_
  rintro e w2 ⟨g, c, rfl, hb3, hc1, hc2, hg0, hglt, f0, f1, f2, f3, f4, f5, f6, f7⟩
  have HGO : Hid (g ≠ O) := by
    have h1 := HR1.out.lt
    have h2 : w1.heap.size < (w1.alloc (.cells #[.int .i64 16, .int .i64 16, .int .i64 32, .int .i64 32, .int .i64 4, .int .i64 4, .int .i64 8, .int .i64 16, .int .i64 16, .int .i64 16] 84)).heap.size := by simp
    show g ≠ O
    omega
  clear hg0
  have hb3' := bthen HB2.out hb3
  have bel2 := bthen bel1 hb3'
  have HR2 : Hid (TAt w2 O t9z none 0 0 none 0 0) := HR1.out.below hb3'
  have HX2 : Hid (Boxed w2 B V x) := HX1.out.old hb3'
  have HY2 : Hid (Boxed w2 (B + 1) U y) := HY1.out.old hb3'
  obtain ⟨q0, hq0⟩ : ∃ p : Nat, p = bs.getD 0 0 * 256 + bs.getD 1 0 := ⟨_, rfl⟩
  have HQ0 : Hid (q0 = bs.getD 0 0 * 256 + bs.getD 1 0) := hq0
  have HF0 : Hid (w2.cell? ⟨g, 0, none⟩ = some (.int .i64 (q0 : Nat))) := by show _ = _; rw [hq0]; exact f0
  obtain ⟨q1, hq1⟩ : ∃ p : Nat, p = bs.getD 2 0 * 256 + bs.getD 3 0 := ⟨_, rfl⟩
  have HQ1 : Hid (q1 = bs.getD 2 0 * 256 + bs.getD 3 0) := hq1
  have HF1 : Hid (w2.cell? ⟨g, 1, none⟩ = some (.int .i64 (q1 : Nat))) := by show _ = _; rw [hq1]; exact f1
  obtain ⟨q2, hq2⟩ : ∃ p : Nat, p = ((bs.getD 4 0 * 256 + bs.getD 5 0) * 256 + bs.getD 6 0) * 256 + bs.getD 7 0 := ⟨_, rfl⟩
  have HQ2 : Hid (q2 = ((bs.getD 4 0 * 256 + bs.getD 5 0) * 256 + bs.getD 6 0) * 256 + bs.getD 7 0) := hq2
  have HF2 : Hid (w2.cell? ⟨g, 2, none⟩ = some (.int .i64 (q2 : Nat))) := by show _ = _; rw [hq2]; exact f2
  obtain ⟨q3, hq3⟩ : ∃ p : Nat, p = ((bs.getD 8 0 * 256 + bs.getD 9 0) * 256 + bs.getD 10 0) * 256 + bs.getD 11 0 := ⟨_, rfl⟩
  have HQ3 : Hid (q3 = ((bs.getD 8 0 * 256 + bs.getD 9 0) * 256 + bs.getD 10 0) * 256 + bs.getD 11 0) := hq3
  have HF3 : Hid (w2.cell? ⟨g, 3, none⟩ = some (.int .i64 (q3 : Nat))) := by show _ = _; rw [hq3]; exact f3
  obtain ⟨q4, hq4⟩ : ∃ p : Nat, p = bs.getD 13 0 := ⟨_, rfl⟩
  have HQ4 : Hid (q4 = bs.getD 13 0) := hq4
  have HF4 : Hid (w2.cell? ⟨g, 6, none⟩ = some (.int .i64 (q4 : Nat))) := by show _ = _; rw [hq4]; exact f5
  obtain ⟨q5, hq5⟩ : ∃ p : Nat, p = bs.getD 14 0 * 256 + bs.getD 15 0 := ⟨_, rfl⟩
  have HQ5 : Hid (q5 = bs.getD 14 0 * 256 + bs.getD 15 0) := hq5
  have HF5 : Hid (w2.cell? ⟨g, 7, none⟩ = some (.int .i64 (q5 : Nat))) := by show _ = _; rw [hq5]; exact f6
  obtain ⟨q6, hq6⟩ : ∃ p : Nat, p = bs.getD 18 0 * 256 + bs.getD 19 0 := ⟨_, rfl⟩
  have HQ6 : Hid (q6 = bs.getD 18 0 * 256 + bs.getD 19 0) := hq6
  have HF6 : Hid (w2.cell? ⟨g, 9, none⟩ = some (.int .i64 (q6 : Nat))) := by show _ = _; rw [hq6]; exact f7
  obtain ⟨q12, hq12⟩ : ∃ p : Nat, p = bs.getD 12 0 / 16 := ⟨_, rfl⟩
  rw [← hq12] at f4
  have q15 : q12 ≤ 15 := by have := I4.getD_lt bs (HD.out _ bel1).d256 12; omega
  have HH : Hid (L4.tH bs = q12 * 4) := by show _ = _; rw [hq12]; rfl
  rw [HH.out] at HEX
  have w4 : IntKind.i64.wrap ((q12 : Int) * 4) = (q12 : Int) * 4 := by rw [IntKind.wrap_i64]; omega
  have cc : 10 ≤ c := hc1
  have HCC : Hid (10 ≤ c) := hc1
  have HGLT : Hid (g < w2.heap.size) := hglt
  obtain ⟨hd, hhd⟩ : ∃ hd, hd = q12 * 4 := ⟨_, rfl⟩
  rw [← hhd] at HEX HH
  have e4 : (q12 : Int) * 4 = (hd : Int) := by omega
  have hd60 : hd ≤ 60 := by omega
  clear hb3 hb3' QF g0 g1 g2 g3 g4 g5 g6 g7 g8 g9 HR1 f0 f1 f2 f3 f5 f6 f7 HB2 HS8 HX1 HY1 hq12 hq0 hq1 hq2 hq3 hq4 hq5 hq6 hc1 hc2 hglt hhd q15
  by_cases cS : hd < 20
  · have cS' : (hd : Int) < 20 := by omega
    rw [if_pos (Or.inl cS)] at HEX
    have HE : Hid (E = 95) := HEX.out
    clear cS HEX
    go_upto_region 10 with fail
    try rw [e4]
    clear e4
    go_wp2_with (first | (refine wpList_build0t rfl rfl ?_) | (refine wpList_store_t9 (.tmp 6) _ rfl rfl O t9z none 0 0 none 0 0 t9z none 0 0 none 0 0 rfl rfl HR2.out rfl ?_))
    intro wE hRE kE
    have HRE : Hid (TAt wE O t9z none 0 0 none 0 0) := hRE
    have HFE : Hid (Below w.heap.size w wE) := bel2.trans (kE.below (fun q e => by have e' : q = O := e; have := HO2.out; omega) bel2.size)
    clear hRE kE
    go_wp2
    (try simp only [Exit.inBlock, Exit.then])
    refine bodyPost_ret (results_t9_tmp rfl _ _ O t9z none 0 0 none 0 0 rfl HRE.out) rfl ?_
    exact ⟨E, none, 0, 0, (by rw [HE.out]; rfl), HFE.out, rfl, (fun h => by rw [HE.out] at h; cases h)⟩
  by_cases cL : n < hd
  · have cS' : ¬ (hd : Int) < 20 := by omega
    have cL' : (n : Int) < (hd : Int) := by omega
    rw [if_pos (Or.inr cL)] at HEX
    have HE : Hid (E = 95) := HEX.out
    clear cL cS HEX
    go_upto_region 10 with fail
    try rw [e4]
    clear e4
    go_wp2_with (first | (refine wpList_build0t rfl rfl ?_) | (refine wpList_store_t9 (.tmp 6) _ rfl rfl O t9z none 0 0 none 0 0 t9z none 0 0 none 0 0 rfl rfl HR2.out rfl ?_))
    intro wE hRE kE
    have HRE : Hid (TAt wE O t9z none 0 0 none 0 0) := hRE
    have HFE : Hid (Below w.heap.size w wE) := bel2.trans (kE.below (fun q e => by have e' : q = O := e; have := HO2.out; omega) bel2.size)
    clear hRE kE
    go_wp2
    (try simp only [Exit.inBlock, Exit.then])
    refine bodyPost_ret (results_t9_tmp rfl _ _ O t9z none 0 0 none 0 0 rfl HRE.out) rfl ?_
    exact ⟨E, none, 0, 0, (by rw [HE.out]; rfl), HFE.out, rfl, (fun h => by rw [HE.out] at h; cases h)⟩
  have cS' : ¬ (hd : Int) < 20 := by omega
  have cL' : ¬ (n : Int) < (hd : Int) := by omega
  rw [if_neg (by omega)] at HEX
  have s20 : 20 ≤ hd := by omega
  have sN : hd ≤ n := by omega
  clear cS cL
  have QG : Hid _ := HGD2.out w2 bel2
  obtain ⟨gd, hgd⟩ : ∃ gd, gd = decide (S.fold (S.wv false (psL V U x y 6 (n : Nat) ++ bs)) = 65535) := ⟨_, rfl⟩
  rw [← hgd] at QG
  have HGD4 : Hid (gd = decide (S.fold (S.wv false (psL V U x y 6 (n : Nat) ++ bs)) = 65535)) := hgd
  clear hgd HGD2
  go_upto_region 10 with fail
  try rw [e4]
  clear e4 f4 w4
  go_wp2_with (first | (refine wpList_load_ip (.tmp 3) rfl B V x rfl HX2.out rfl ?_) | (refine wpList_load_ip (.tmp 4) rfl (B + 1) U y rfl HY2.out rfl ?_))
  refine Calls.mono QG.out ?_
  rintro e w3 ⟨rfl, hb3⟩
  have bel3 := bthen bel2 hb3
  have HR3 : Hid (TAt w3 O t9z none 0 0 none 0 0) := HR2.out.below hb3
  have HG0 : Hid (w3.cell? ⟨g, 0, none⟩ = some (.int .i64 (q0 : Nat))) := (hb3.cell (p := ⟨g, 0, none⟩) HGLT.out).trans HF0.out
  have HG1 : Hid (w3.cell? ⟨g, 1, none⟩ = some (.int .i64 (q1 : Nat))) := (hb3.cell (p := ⟨g, 1, none⟩) HGLT.out).trans HF1.out
  have HG2 : Hid (w3.cell? ⟨g, 2, none⟩ = some (.int .i64 (q2 : Nat))) := (hb3.cell (p := ⟨g, 2, none⟩) HGLT.out).trans HF2.out
  have HG3 : Hid (w3.cell? ⟨g, 3, none⟩ = some (.int .i64 (q3 : Nat))) := (hb3.cell (p := ⟨g, 3, none⟩) HGLT.out).trans HF3.out
  have HG4 : Hid (w3.cell? ⟨g, 6, none⟩ = some (.int .i64 (q4 : Nat))) := (hb3.cell (p := ⟨g, 6, none⟩) HGLT.out).trans HF4.out
  have HG5 : Hid (w3.cell? ⟨g, 7, none⟩ = some (.int .i64 (q5 : Nat))) := (hb3.cell (p := ⟨g, 7, none⟩) HGLT.out).trans HF5.out
  have HG6 : Hid (w3.cell? ⟨g, 9, none⟩ = some (.int .i64 (q6 : Nat))) := (hb3.cell (p := ⟨g, 9, none⟩) HGLT.out).trans HF6.out
  have HGLT3 : Hid (g < w3.heap.size) := Nat.lt_of_lt_of_le HGLT.out hb3.size
  clear QG hb3 HR2 HX2 HY2 HF0 HF1 HF2 HF3 HF4 HF5 HF6 HGLT
  cases gd with
  | false =>
    rw [if_pos (of_decide_eq_false HGD4.out.symm)] at HEX
    have HE : Hid (E = 96) := HEX.out
    clear HEX
    go_wp2_with (first | (refine wpList_build0t rfl rfl ?_) | (refine wpList_store_t9 (.tmp 6) _ rfl rfl O t9z none 0 0 none 0 0 t9z none 0 0 none 0 0 rfl rfl HR3.out rfl ?_))
    intro wE hRE kE
    have HRE : Hid (TAt wE O t9z none 0 0 none 0 0) := hRE
    have HFE : Hid (Below w.heap.size w wE) := bel3.trans (kE.below (fun q e => by have e' : q = O := e; have := HO2.out; omega) bel3.size)
    clear hRE kE
    go_wp2
    (try simp only [Exit.inBlock, Exit.then])
    refine bodyPost_ret (results_t9_tmp rfl _ _ O t9z none 0 0 none 0 0 rfl HRE.out) rfl ?_
    exact ⟨E, none, 0, 0, (by rw [HE.out]; rfl), HFE.out, rfl, (fun h => by rw [HE.out] at h; cases h)⟩
  | true =>
  rw [if_neg (fun h => h (of_decide_eq_true HGD4.out.symm))] at HEX
  obtain ⟨tv, htv⟩ : ∃ tv : T9, tv = L4.tP bs := ⟨_, rfl⟩
  have HTV : Hid (tv = L4.tP bs) := htv
  have QS := segment_any g c (L4.tP bs).os (L4.tP bs).d q0 q1 q2 q3 q4 q5 q6 w3 HGLT3.out HG0.out HG1.out HG2.out HG3.out HG4.out HG5.out HG6.out
  have etv : (⟨(q0 : Nat), (q1 : Nat), (q2 : Nat), (q3 : Nat), (q4 : Nat), (q5 : Nat), (q6 : Nat), (L4.tP bs).os, (L4.tP bs).d⟩ : T9) = tv := by
    rw [htv, HQ0.out, HQ1.out, HQ2.out, HQ3.out, HQ4.out, HQ5.out, HQ6.out]
    rfl
  rw [etv] at QS
  have HQS : Hid _ := QS
  clear QS etv htv HG0 HQ0 HG1 HQ1 HG2 HQ2 HG3 HQ3 HG4 HQ4 HG5 HQ5 HG6 HQ6 HGLT3 HCC
  go_wp2_with fail
  refine Calls.mono HQS.out ?_
  rintro e w4 ⟨rfl, hb4⟩
  have bel4 := bthen bel3 hb4
  have HR4 : Hid (TAt w4 O t9z none 0 0 none 0 0) := HR3.out.below hb4
  clear HQS hb4 HR3
  obtain ⟨O2, hO2⟩ : ∃ O2, O2 = w4.heap.size := ⟨_, rfl⟩
  have hbz : Below w4.heap.size w4 (w4.alloc (.cells (tC t9z none 0 0 none 0 0) 45)) := (Below.refl _ _).alloc (Nat.le_refl _) _
  have hnz := tAt_new w4 t9z none 0 0 none 0 0
  rw [← hO2] at hnz
  have HNZ : Hid _ := hnz
  have HRz : Hid _ := HR4.out.below hbz
  have belz := bthen bel4 hbz
  have HO2s : Hid (w4.heap.size = O2) := hO2.symm
  have HOO : Hid (O < O2) := by rw [hO2]; exact HR4.out.lt
  have HOW : Hid (w.heap.size ≤ O2) := by show _ ≤ _; rw [hO2]; exact bel4.size
  clear hnz hbz bel4 HR4 hO2
  go_upto_region 15 with (first | (refine wpList_alloc_t9 rfl rfl ?_) | (refine wpList_store_t9 (.tmp 13) (.tmp 55) rfl rfl w4.heap.size t9z none 0 0 none 0 0 tv none 0 0 none 0 0 rfl rfl (by rw [HO2s.out]; exact HNZ.out) rfl ?_))
  intro w5 hT5 hc5
  rw [HO2s.out] at hT5 hc5 ⊢
  have bel5 : Below w.heap.size w w5 := belz.trans (hc5.below (fun q e => by have e' : q = O2 := e; have := HOW.out; omega) belz.size)
  have HR5 : Hid (TAt w5 O t9z none 0 0 none 0 0) := TAt.ch HRz.out hc5 (fun e => by have e' : O = O2 := e; have := HOO.out; omega)
  have HT5 : Hid (TAt w5 O2 tv none 0 0 none 0 0) := hT5
  have HOB : Hid (L4.tOb bs = (bs.drop 20).take (hd - 20)) := by show _ = _; unfold L4.tOb; rw [HH.out]
  have hsg := seg_pre (seg_rest (HD.out w5 bel5).seg 20 cap (by rw [HN.out]; omega) (by rw [HN.out]; exact h2)) (hd - 20)
  have QT : Hid _ := topt_any (a20 a cap) (cap - 20) (hd - 20) ((bs.drop 20).take (hd - 20)) w5 (HLW.out w5 bel5) (by rw [List.length_take, List.length_drop, HN.out]; omega) hsg (fun z hz => (HD.out w5 bel5).d256 z (List.mem_of_mem_drop (List.mem_of_mem_take hz))) (by omega) (by omega)
  rw [← HOB.out] at QT
  have d20 : (20 : Int) ≤ (hd : Int) := by omega
  have dcap : (hd : Int) ≤ (cap : Int) := by omega
  have t20 : ((20 : Int)).toNat = 20 := rfl
  have thd : ((hd : Int)).toNat = hd := by omega
  have HO25 : Hid (O2 < w5.heap.size) := hT5.lt
  clear hT5 hc5 belz HRz HNZ hsg
  by_cases c20 : cap = 20
  · have HEAW : Hid (a20 a cap = a) := if_pos c20
    rw [HEAW.out] at QT
    subst c20
    go_wp2_with fail
    refine Calls.mono QT.out ?_
    rintro e w6 ⟨v, er, rfl, hb6, hr6⟩
    have bel6 := bthen bel5 hb6
    have HR6 : Hid (TAt w6 O t9z none 0 0 none 0 0) := HR5.out.below hb6
    have HT6 : Hid (TAt w6 O2 tv none 0 0 none 0 0) := HT5.out.below hb6
    clear QT hb6 HR5 HT5
    rcases hr6 with ⟨os, hro, rfl, ho⟩ | ⟨hro, rfl, rfl⟩
    case inr =>
      rw [if_pos hro] at HEX
      have HE : Hid (E = 97) := HEX.out
      obtain ⟨hT7, hc7⟩ := HT6.out.set7 none 0 0
      have f7 := HT6.out.c7
      have z7 := HT6.out.fz 7
      have bel7 : Below w.heap.size w (w6.setCell ⟨O2, 7, none⟩ (.slice none 0 0)) := bel6.trans (hc7.below (fun q e => by have e' : q = O2 := e; have := HOW.out; omega) bel6.size)
      have HR7 : Hid (TAt (w6.setCell ⟨O2, 7, none⟩ (.slice none 0 0)) O t9z none 0 0 none 0 0) := HR6.out.ch hc7 (fun e => by have e' : O = O2 := e; have := HOO.out; omega)
      obtain ⟨w7, hw7⟩ : ∃ w7, w7 = w6.setCell ⟨O2, 7, none⟩ (.slice none 0 0) := ⟨_, rfl⟩
      rw [← hw7] at bel7 HR7
      have HW7 : Hid (w6.setCell ⟨O2, 7, none⟩ (.slice none 0 0) = w7) := hw7.symm
      clear hT7 hc7 HEX hro hw7 HT6 HR6
      go_upto_region 16 with fail
      rw [HW7.out]
      clear HW7 f7 z7
      go_wp2_with (first | (refine wpList_build0t rfl rfl ?_) | (refine wpList_store_t9 (.tmp 6) _ rfl rfl O t9z none 0 0 none 0 0 t9z none 0 0 none 0 0 rfl rfl HR7.out rfl ?_))
      intro wE hRE kE
      have HRE : Hid (TAt wE O t9z none 0 0 none 0 0) := hRE
      have HFE : Hid (Below w.heap.size w wE) := bel7.trans (kE.below (fun q e => by have e' : q = O := e; have := HO2.out; omega) bel7.size)
      clear hRE kE
      go_wp2
      (try simp only [Exit.inBlock, Exit.then])
      refine bodyPost_ret (results_t9_tmp rfl _ _ O t9z none 0 0 none 0 0 rfl HRE.out) rfl ?_
      exact ⟨E, none, 0, 0, (by rw [HE.out]; rfl), HFE.out, rfl, (fun h => by rw [HE.out] at h; cases h)⟩
    rw [if_neg (by rw [hro]; simp)] at HEX
    have HE : Hid (E = 0) := HEX.out
    obtain ⟨la, lc, hv⟩ := owns_shape ho
    subst hv
    obtain ⟨K, hK⟩ : ∃ K, K = os.length := ⟨_, rfl⟩
    have HK : Hid (K = os.length) := hK
    rw [← hK] at ho ⊢
    have HOS : Hid _ := ho
    have HRO : Hid _ := hro
    have HLA : Hid (∀ z, (Value.slice la K lc).ownBlock = some z → w5.heap.size ≤ z) := fun z hz => (ho.lt z hz).1
    obtain ⟨hT7, hc7⟩ := HT6.out.set7 la K lc
    have f7 := HT6.out.c7
    have z7 := HT6.out.fz 7
    have bel7 : Below w.heap.size w (w6.setCell ⟨O2, 7, none⟩ (.slice la K lc)) := bel6.trans (hc7.below (fun q e => by have e' : q = O2 := e; have := HOW.out; omega) bel6.size)
    have HR7 : Hid (TAt (w6.setCell ⟨O2, 7, none⟩ (.slice la K lc)) O t9z none 0 0 none 0 0) := HR6.out.ch hc7 (fun e => by have e' : O = O2 := e; have := HOO.out; omega)
    have HT7 : Hid _ := hT7
    have HOS7 : Hid _ := hc7.owns HOS.out (fun z hz e => by have e' : z = O2 := e; have := HLA.out z hz; have := HO25.out; omega)
    obtain ⟨w7, hw7⟩ : ∃ w7, w7 = w6.setCell ⟨O2, 7, none⟩ (.slice la K lc) := ⟨_, rfl⟩
    rw [← hw7] at bel7 HR7 HT7 HOS7
    have HW7 : Hid (w6.setCell ⟨O2, 7, none⟩ (.slice la K lc) = w7) := hw7.symm
    have wn : IntKind.i64.wrap ((n : Int) - (hd : Int)) = (n : Int) - (hd : Int) := by rw [IntKind.wrap_i64]; omega
    have QW := window_ok a n _ hd (n - hd) w7 (by omega) h2 h3
    have en : ((n - hd : Nat) : Int) = (n : Int) - (hd : Int) := by omega
    rw [en] at QW
    have HQW : Hid _ := QW
    clear hT7 hc7 HEX hro ho hK QW en hw7 HT6 HR6 HOS
    go_upto_region 16 with fail
    rw [HW7.out]
    clear HW7 f7 z7
    go_wp2_with fail
    refine Calls.mono HQW.out ?_
    rintro e w8 ⟨rfl, hb8⟩
    have bel8 := bthen bel7 hb8
    have HR8 : Hid (TAt w8 O t9z none 0 0 none 0 0) := HR7.out.below hb8
    have HT8 : Hid (TAt w8 O2 tv la K lc none 0 0) := TAt.below HT7.out hb8
    have HOS8 : Hid _ := own_below HOS7.out hb8
    obtain ⟨hT9, hc9⟩ := HT8.out.set8 (cutA a hd (n - hd)) (n - hd) (n - hd)
    have f8 := HT8.out.c8
    have z8 := HT8.out.fz 8
    have bel9 : Below w.heap.size w (w8.setCell ⟨O2, 8, none⟩ (.slice (cutA a hd (n - hd)) (n - hd) (n - hd))) := bel8.trans (hc9.below (fun q e => by have e' : q = O2 := e; have := HOW.out; omega) bel8.size)
    have HR9 : Hid (TAt (w8.setCell ⟨O2, 8, none⟩ (.slice (cutA a hd (n - hd)) (n - hd) (n - hd))) O t9z none 0 0 none 0 0) := HR8.out.ch hc9 (fun e => by have e' : O = O2 := e; have := HOO.out; omega)
    have HT9 : Hid _ := hT9
    have HOS9 : Hid _ := hc9.owns HOS8.out (fun z hz e => by have e' : z = O2 := e; have := HLA.out z hz; have := HO25.out; omega)
    obtain ⟨w9, hw9⟩ : ∃ w9, w9 = w8.setCell ⟨O2, 8, none⟩ (.slice (cutA a hd (n - hd)) (n - hd) (n - hd)) := ⟨_, rfl⟩
    rw [← hw9] at bel9 HR9 HT9 HOS9
    have HW9 : Hid (w8.setCell ⟨O2, 8, none⟩ (.slice (cutA a hd (n - hd)) (n - hd) (n - hd)) = w9) := hw9.symm
    clear hT9 hc9 hb8 HQW hw9 HT8 HR8 HOS8 HOS7 HT7 HR7
    go_upto_region 19 with fail
    rw [HW9.out]
    clear HW9 f8 z8
    go_wp2_with (first | (refine wpList_load_t9 (.tmp 13) rfl O2 tv la K lc (cutA a hd (n - hd)) (n - hd) (n - hd) rfl HT9.out rfl ?_) | (refine wpList_store_t9 (.tmp 6) (.tmp 84) rfl rfl O t9z none 0 0 none 0 0 tv la K lc (cutA a hd (n - hd)) (n - hd) (n - hd) rfl rfl HR9.out rfl ?_))
    intro wE hRE kE
    have HRE : Hid (TAt wE O tv la K lc (cutA a hd (n - hd)) (n - hd) (n - hd)) := hRE
    have HFE : Hid (Below w.heap.size w wE) := bel9.trans (kE.below (fun q e => by have e' : q = O := e; have := HO2.out; omega) bel9.size)
    have HOSE : Hid _ := kE.owns HOS9.out (fun z hz e => by have e' : z = O := e; have := HLA.out z hz; have := HO25.out; have := HOO.out; omega)
    clear hRE kE
    go_wp2
    (try simp only [Exit.inBlock, Exit.then])
    refine bodyPost_ret (results_t9_tmp rfl _ _ O tv la K lc (cutA a hd (n - hd)) (n - hd) (n - hd) rfl HRE.out) rfl ?_
    refine ⟨E, la, K, lc, (by rw [HE.out]; unfold ptC; rw [if_pos rfl, HH.out, HN.out, ← HTV.out]; rfl), HFE.out, rfl, fun _ => ⟨os, HRO.out, HK.out, by rw [HEAW.out]; exact owns_mono HOSE.out bel5.size⟩⟩
  · have HEAW : Hid (a20 a cap = a.map (fun x => { block := x.block, off := x.off + 20 })) := if_neg c20
    rw [HEAW.out] at QT
    go_wp2_with fail
    refine Calls.mono QT.out ?_
    rintro e w6 ⟨v, er, rfl, hb6, hr6⟩
    have bel6 := bthen bel5 hb6
    have HR6 : Hid (TAt w6 O t9z none 0 0 none 0 0) := HR5.out.below hb6
    have HT6 : Hid (TAt w6 O2 tv none 0 0 none 0 0) := HT5.out.below hb6
    clear QT hb6 HR5 HT5
    rcases hr6 with ⟨os, hro, rfl, ho⟩ | ⟨hro, rfl, rfl⟩
    case inr =>
      rw [if_pos hro] at HEX
      have HE : Hid (E = 97) := HEX.out
      obtain ⟨hT7, hc7⟩ := HT6.out.set7 none 0 0
      have f7 := HT6.out.c7
      have z7 := HT6.out.fz 7
      have bel7 : Below w.heap.size w (w6.setCell ⟨O2, 7, none⟩ (.slice none 0 0)) := bel6.trans (hc7.below (fun q e => by have e' : q = O2 := e; have := HOW.out; omega) bel6.size)
      have HR7 : Hid (TAt (w6.setCell ⟨O2, 7, none⟩ (.slice none 0 0)) O t9z none 0 0 none 0 0) := HR6.out.ch hc7 (fun e => by have e' : O = O2 := e; have := HOO.out; omega)
      obtain ⟨w7, hw7⟩ : ∃ w7, w7 = w6.setCell ⟨O2, 7, none⟩ (.slice none 0 0) := ⟨_, rfl⟩
      rw [← hw7] at bel7 HR7
      have HW7 : Hid (w6.setCell ⟨O2, 7, none⟩ (.slice none 0 0) = w7) := hw7.symm
      clear hT7 hc7 HEX hro hw7 HT6 HR6
      go_upto_region 16 with fail
      rw [HW7.out]
      clear HW7 f7 z7
      go_wp2_with (first | (refine wpList_build0t rfl rfl ?_) | (refine wpList_store_t9 (.tmp 6) _ rfl rfl O t9z none 0 0 none 0 0 t9z none 0 0 none 0 0 rfl rfl HR7.out rfl ?_))
      intro wE hRE kE
      have HRE : Hid (TAt wE O t9z none 0 0 none 0 0) := hRE
      have HFE : Hid (Below w.heap.size w wE) := bel7.trans (kE.below (fun q e => by have e' : q = O := e; have := HO2.out; omega) bel7.size)
      clear hRE kE
      go_wp2
      (try simp only [Exit.inBlock, Exit.then])
      refine bodyPost_ret (results_t9_tmp rfl _ _ O t9z none 0 0 none 0 0 rfl HRE.out) rfl ?_
      exact ⟨E, none, 0, 0, (by rw [HE.out]; rfl), HFE.out, rfl, (fun h => by rw [HE.out] at h; cases h)⟩
    rw [if_neg (by rw [hro]; simp)] at HEX
    have HE : Hid (E = 0) := HEX.out
    obtain ⟨la, lc, hv⟩ := owns_shape ho
    subst hv
    obtain ⟨K, hK⟩ : ∃ K, K = os.length := ⟨_, rfl⟩
    have HK : Hid (K = os.length) := hK
    rw [← hK] at ho ⊢
    have HOS : Hid _ := ho
    have HRO : Hid _ := hro
    have HLA : Hid (∀ z, (Value.slice la K lc).ownBlock = some z → w5.heap.size ≤ z) := fun z hz => (ho.lt z hz).1
    obtain ⟨hT7, hc7⟩ := HT6.out.set7 la K lc
    have f7 := HT6.out.c7
    have z7 := HT6.out.fz 7
    have bel7 : Below w.heap.size w (w6.setCell ⟨O2, 7, none⟩ (.slice la K lc)) := bel6.trans (hc7.below (fun q e => by have e' : q = O2 := e; have := HOW.out; omega) bel6.size)
    have HR7 : Hid (TAt (w6.setCell ⟨O2, 7, none⟩ (.slice la K lc)) O t9z none 0 0 none 0 0) := HR6.out.ch hc7 (fun e => by have e' : O = O2 := e; have := HOO.out; omega)
    have HT7 : Hid _ := hT7
    have HOS7 : Hid _ := hc7.owns HOS.out (fun z hz e => by have e' : z = O2 := e; have := HLA.out z hz; have := HO25.out; omega)
    obtain ⟨w7, hw7⟩ : ∃ w7, w7 = w6.setCell ⟨O2, 7, none⟩ (.slice la K lc) := ⟨_, rfl⟩
    rw [← hw7] at bel7 HR7 HT7 HOS7
    have HW7 : Hid (w6.setCell ⟨O2, 7, none⟩ (.slice la K lc) = w7) := hw7.symm
    have wn : IntKind.i64.wrap ((n : Int) - (hd : Int)) = (n : Int) - (hd : Int) := by rw [IntKind.wrap_i64]; omega
    have QW := window_ok a n _ hd (n - hd) w7 (by omega) h2 h3
    have en : ((n - hd : Nat) : Int) = (n : Int) - (hd : Int) := by omega
    rw [en] at QW
    have HQW : Hid _ := QW
    clear hT7 hc7 HEX hro ho hK QW en hw7 HT6 HR6 HOS
    go_upto_region 16 with fail
    rw [HW7.out]
    clear HW7 f7 z7
    go_wp2_with fail
    refine Calls.mono HQW.out ?_
    rintro e w8 ⟨rfl, hb8⟩
    have bel8 := bthen bel7 hb8
    have HR8 : Hid (TAt w8 O t9z none 0 0 none 0 0) := HR7.out.below hb8
    have HT8 : Hid (TAt w8 O2 tv la K lc none 0 0) := TAt.below HT7.out hb8
    have HOS8 : Hid _ := own_below HOS7.out hb8
    obtain ⟨hT9, hc9⟩ := HT8.out.set8 (cutA a hd (n - hd)) (n - hd) (n - hd)
    have f8 := HT8.out.c8
    have z8 := HT8.out.fz 8
    have bel9 : Below w.heap.size w (w8.setCell ⟨O2, 8, none⟩ (.slice (cutA a hd (n - hd)) (n - hd) (n - hd))) := bel8.trans (hc9.below (fun q e => by have e' : q = O2 := e; have := HOW.out; omega) bel8.size)
    have HR9 : Hid (TAt (w8.setCell ⟨O2, 8, none⟩ (.slice (cutA a hd (n - hd)) (n - hd) (n - hd))) O t9z none 0 0 none 0 0) := HR8.out.ch hc9 (fun e => by have e' : O = O2 := e; have := HOO.out; omega)
    have HT9 : Hid _ := hT9
    have HOS9 : Hid _ := hc9.owns HOS8.out (fun z hz e => by have e' : z = O2 := e; have := HLA.out z hz; have := HO25.out; omega)
    obtain ⟨w9, hw9⟩ : ∃ w9, w9 = w8.setCell ⟨O2, 8, none⟩ (.slice (cutA a hd (n - hd)) (n - hd) (n - hd)) := ⟨_, rfl⟩
    rw [← hw9] at bel9 HR9 HT9 HOS9
    have HW9 : Hid (w8.setCell ⟨O2, 8, none⟩ (.slice (cutA a hd (n - hd)) (n - hd) (n - hd)) = w9) := hw9.symm
    clear hT9 hc9 hb8 HQW hw9 HT8 HR8 HOS8 HOS7 HT7 HR7
    go_upto_region 19 with fail
    rw [HW9.out]
    clear HW9 f8 z8
    go_wp2_with (first | (refine wpList_load_t9 (.tmp 13) rfl O2 tv la K lc (cutA a hd (n - hd)) (n - hd) (n - hd) rfl HT9.out rfl ?_) | (refine wpList_store_t9 (.tmp 6) (.tmp 84) rfl rfl O t9z none 0 0 none 0 0 tv la K lc (cutA a hd (n - hd)) (n - hd) (n - hd) rfl rfl HR9.out rfl ?_))
    intro wE hRE kE
    have HRE : Hid (TAt wE O tv la K lc (cutA a hd (n - hd)) (n - hd) (n - hd)) := hRE
    have HFE : Hid (Below w.heap.size w wE) := bel9.trans (kE.below (fun q e => by have e' : q = O := e; have := HO2.out; omega) bel9.size)
    have HOSE : Hid _ := kE.owns HOS9.out (fun z hz e => by have e' : z = O := e; have := HLA.out z hz; have := HO25.out; have := HOO.out; omega)
    clear hRE kE
    go_wp2
    (try simp only [Exit.inBlock, Exit.then])
    refine bodyPost_ret (results_t9_tmp rfl _ _ O tv la K lc (cutA a hd (n - hd)) (n - hd) (n - hd) rfl HRE.out) rfl ?_
    refine ⟨E, la, K, lc, (by rw [HE.out]; unfold ptC; rw [if_pos rfl, HH.out, HN.out, ← HTV.out]; rfl), HFE.out, rfl, fun _ => ⟨os, HRO.out, HK.out, by rw [HEAW.out]; exact owns_mono HOSE.out bel5.size⟩⟩
end Go.Proofs.YtfoeepbndfnifaaDoor
