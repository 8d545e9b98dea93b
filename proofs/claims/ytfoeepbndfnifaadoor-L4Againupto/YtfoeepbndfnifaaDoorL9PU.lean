/-
  l4.ParseUdp.
-/
import Derived.Test.YtfoeepbndfnifaaDoorL9One
namespace Go.Proofs.YtfoeepbndfnifaaDoor
open Go.RowKit
open L4 (U9 T9)

theorem seg_pre {k : IntKind} {w : World} {a : Option Addr} {l : List Nat} (h : Seg k w a (toI l)) (n : Nat) : Seg k w a (toI (l.take n)) := by
  rcases h with h | ⟨b, off, e, hc⟩
  · left
    have : l = [] := by simpa [toI] using h
    subst this
    simp [toI]
  · refine .inr ⟨b, off, e, fun i hi => ?_⟩
    have hi' : i < l.length ∧ i < n := by simp [toI] at hi; omega
    have := hc i (by simp [toI]; omega)
    rw [this]
    simp [toI, List.getD, hi'.1, hi'.2]
theorem DOk.pre {w : World} {d : List Nat} {a : Option Addr} {n c : Nat} (h : DOk w d a n c) (m : Nat) (hm : m ≤ n) : DOk w (d.take m) a m c :=
  ⟨by rw [List.length_take, h.dl]; omega, seg_pre h.seg m, fun x hx => h.d256 x (List.mem_of_mem_take hx), by have := h.cap; omega, h.top, by have := h.sm; omega⟩
/-- what ParseUdp answers: the datagram's cells -/
def puC (er : Nat) (a : Option Addr) (bs : List Nat) : Array Value := if er = 0 then uC (L4.uP bs) (cutA a 8 (L4.uN bs - 8)) (L4.uN bs - 8) (L4.uN bs - 8) else uC u9z none 0 0
set_option maxHeartbeats 6400000 in
set_option maxRecDepth 100000 in
theorem parseU_any (V U : Int) (x y : Nat → Nat) (a : Option Addr) (n cap : Nat) (bs : List Nat) (w : World) (hw : UW w) (hd : DOk w bs a n cap) (hx : ∀ i, i < 16 → x i < 256) (hy : ∀ i, i < 16 → y i < 256) :
    Calls Tryd.prog 7 #[.agg (ipCells V x), .agg (ipCells U y), .slice a n cap] w fun e w' => ∃ er, e = .returned (.tuple #[.agg (puC er a bs), .int .i64 (er : Nat)]) ∧ Below w.heap.size w w' ∧ er = L4.uPE V (psOk V U x y) (psL V U x y 17 (L4.uN bs : Nat)) bs := by
  obtain ⟨A, hA⟩ : ∃ A, A = ipCells V x := ⟨_, rfl⟩
  obtain ⟨C, hC⟩ : ∃ C, C = ipCells U y := ⟨_, rfl⟩
  have hx1 := boxed_new w V x 24
  have hy1 := boxed_new (w.alloc (.cells (ipCells V x) 24)) U y 24
  rw [World.size_alloc] at hy1
  have hx2 := hx1.old ((Below.refl _ _).alloc (Nat.le_refl _) (.cells (ipCells U y) 24))
  clear hx1
  rw [← hA] at hx2 hy1 ⊢
  rw [← hC] at hx2 hy1 ⊢
  have s2 : ((w.alloc (.cells A 24)).alloc (.cells C 24)).heap.size = w.heap.size + 1 + 1 := by simp
  have hr := uAt_new ((w.alloc (.cells A 24)).alloc (.cells C 24)) u9z none 0 0
  rw [s2] at hr
  have b3 : Below ((w.alloc (.cells A 24)).alloc (.cells C 24)).heap.size ((w.alloc (.cells A 24)).alloc (.cells C 24)) (((w.alloc (.cells A 24)).alloc (.cells C 24)).alloc (.cells (uC u9z none 0 0) 37)) := (Below.refl _ _).alloc (Nat.le_refl _) _
  have hx3 := hx2.old b3
  have hy3 := hy1.old b3
  have bel : Below w.heap.size w (((w.alloc (.cells A 24)).alloc (.cells C 24)).alloc (.cells (uC u9z none 0 0) 37)) := (((Below.refl _ _).alloc (Nat.le_refl _) _).alloc (by simp) _).alloc (by simp; omega) _
  clear hx2 hy1 b3 s2
  obtain ⟨W, hW⟩ : ∃ W, W = ((w.alloc (.cells A 24)).alloc (.cells C 24)).alloc (.cells #[.int .i64 0, .int .i64 0, .bool false, .slice none 0 0] 37) := ⟨_, rfl⟩
  have hW2 : W = ((w.alloc (.cells A 24)).alloc (.cells C 24)).alloc (.cells (uC u9z none 0 0) 37) := hW
  rw [← hW2] at hr hx3 hy3 bel
  obtain ⟨B, hB⟩ : ∃ B, B = w.heap.size := ⟨_, rfl⟩
  have HB : Hid (w.heap.size = B) := hB.symm
  rw [← hB] at hr hx3 hy3
  obtain ⟨O, hO⟩ : ∃ O, O = B + 1 + 1 := ⟨_, rfl⟩
  rw [← hO] at hr
  have HW : Hid (((w.alloc (.cells A 24)).alloc (.cells C 24)).alloc (.cells #[.int .i64 0, .int .i64 0, .bool false, .slice none 0 0] 37) = W) := hW.symm
  have HO : Hid (B + 1 + 1 = O) := hO.symm
  have HO2 : Hid (w.heap.size + 2 = O) := by show _ = _; rw [hO, hB]
  have HR : Hid (UAt W O u9z none 0 0) := hr
  have HX : Hid (∀ i, i < 16 → x i < 256) := hx
  have HY : Hid (∀ i, i < 16 → y i < 256) := hy
  have HXB : Hid (Boxed W B V x) := hx3
  have HYB : Hid (Boxed W (B + 1) U y) := hy3
  clear hB hW hW2 hr hx3 hy3 hO hx hy hA hC
  have HD : Hid (∀ A, Below w.heap.size w A → DOk A bs a n cap) := fun A hA => hd.old hA
  have HN : Hid (bs.length = n) := hd.dl
  have h2 := hd.cap
  have h3 := hd.top
  have HWID : Hid (∀ A, Below w.heap.size w A → UW A) := fun A hA => hw.old hA
  obtain ⟨E, hE⟩ : ∃ E, E = L4.uPE V (psOk V U x y) (psL V U x y 17 (L4.uN bs : Nat)) bs := ⟨_, rfl⟩
  rw [← hE]
  have HEX : Hid _ := hE
  unfold L4.uPE at HEX
  rw [hd.dl] at HEX
  have QF : Hid _ := fit_any V U x y W
  have HG : Hid (psOk V U x y = true → ∀ sz : Nat, sz ≤ 65535 → sz ≤ n → ∀ A, Below w.heap.size w A → Calls Tryd.prog 32 #[.agg (ipCells V x), .agg (ipCells U y), .int .i64 17, .slice a sz cap] A fun e w' => e = .returned (.bool (decide (S.fold (S.wv false (psL V U x y 17 (sz : Nat) ++ bs.take sz)) = 65535))) ∧ Below A.heap.size A w') := fun hok sz h1 h2 A hA => good9_any V U x y 17 a sz cap (bs.take sz) A hok (by omega) h1 HX.out HY.out ((hd.old hA).pre sz h2)
  obtain ⟨ok, hok⟩ : ∃ ok, ok = psOk V U x y := ⟨_, rfl⟩
  rw [← hok] at QF HEX HG
  clear hok hE hw hd
  by_cases c1 : 65535 < n
  · have c1' : (65535 : Int) < (n : Int) := by omega
    rw [if_pos c1] at HEX
    have HE : Hid (E = 2) := HEX.out
    clear c1 HEX
    go_enter Tryd.func7, Tryd.ntmps7
    go_upto_region 1 with fail
    rw [HB.out, HO.out, HW.out]
    go_wp2_with (first | (refine wpList_build0u rfl rfl ?_) | (refine wpList_store_u9 (.tmp 6) _ rfl rfl O u9z none 0 0 u9z none 0 0 rfl rfl HR.out rfl ?_))
    intro wE hRE kE
    have HRE : Hid (UAt wE O u9z none 0 0) := hRE
    have HFE : Hid (Below w.heap.size w wE) := bel.trans (kE.below (fun q e => by have e' : q = O := e; have := HO2.out; omega) bel.size)
    clear hRE kE
    go_wp2
    (try simp only [Exit.inBlock, Exit.then])
    refine bodyPost_ret (results_u9_tmp rfl _ _ O u9z none 0 0 rfl HRE.out) rfl ?_
    exact ⟨E, (by rw [HE.out]; rfl), HFE.out, rfl⟩
  rw [if_neg c1] at HEX
  have c1' : ¬ (65535 : Int) < (n : Int) := by omega
  have c1b : n ≤ 65535 := by omega
  clear c1
  go_enter Tryd.func7, Tryd.ntmps7
  go_upto_region 1 with fail
  rw [HB.out, HO.out, HW.out]
  go_wp2_with (first | (refine wpList_load_ip (.tmp 3) rfl B V x rfl HXB.out rfl ?_) | (refine wpList_load_ip (.tmp 4) rfl (B + 1) U y rfl HYB.out rfl ?_))
  refine Calls.mono QF.out ?_
  rintro e w1 ⟨rfl, hb1⟩
  have bel1 := bthen bel hb1
  have HR1 : Hid (UAt w1 O u9z none 0 0) := HR.out.below hb1
  have HX1 : Hid (Boxed w1 B V x) := HXB.out.old hb1
  have HY1 : Hid (Boxed w1 (B + 1) U y) := HYB.out.old hb1
  clear QF hb1 HXB HYB HR HW
  cases ok with
  | false =>
    have HE : Hid (E = 20) := HEX.out
    clear HEX
    go_wp2_with (first | (refine wpList_build0u rfl rfl ?_) | (refine wpList_store_u9 (.tmp 6) _ rfl rfl O u9z none 0 0 u9z none 0 0 rfl rfl HR1.out rfl ?_))
    intro wE hRE kE
    have HRE : Hid (UAt wE O u9z none 0 0) := hRE
    have HFE : Hid (Below w.heap.size w wE) := bel1.trans (kE.below (fun q e => by have e' : q = O := e; have := HO2.out; omega) bel1.size)
    clear hRE kE
    go_wp2
    (try simp only [Exit.inBlock, Exit.then])
    refine bodyPost_ret (results_u9_tmp rfl _ _ O u9z none 0 0 rfl HRE.out) rfl ?_
    exact ⟨E, (by rw [HE.out]; rfl), HFE.out, rfl⟩
  | true =>
  rw [if_pos rfl] at HEX
  have HGD := HG.out rfl
  clear HG
  have g0 : w1.cell? ⟨0, 0, none⟩ = some (.int .i64 16) := HWID.out w1 bel1 0 _ rfl
  have g1 : w1.cell? ⟨0, 1, none⟩ = some (.int .i64 16) := HWID.out w1 bel1 1 _ rfl
  have g2 : w1.cell? ⟨0, 2, none⟩ = some (.int .i64 16) := HWID.out w1 bel1 2 _ rfl
  have g3 : w1.cell? ⟨0, 3, none⟩ = some (.int .i64 16) := HWID.out w1 bel1 3 _ rfl
  have HS8 : Hid _ := segU w1
  have hb2 : Below w1.heap.size w1 (w1.alloc (.cells #[.int .i64 16, .int .i64 16, .int .i64 16, .int .i64 16] 77)) := (Below.refl _ _).alloc (Nat.le_refl _) _
  have HB2 : Hid _ := hb2
  have HGD2 : Hid _ := HGD
  clear HGD
  by_cases c8 : n < 8
  · rw [if_pos c8] at HEX
    have HE : Hid (E = 91) := HEX.out
    have QF : Hid _ := fieldsU_no a (some ⟨w1.heap.size, 0, none⟩) n cap _ HS8.out c8 h2 h3
    clear c8 HEX hb2
    go_wp2_with fail
    refine Calls.mono QF.out ?_
    rintro e w2 ⟨rfl, hb3⟩
    have hb3' := bthen HB2.out hb3
    have bel2 := bthen bel1 hb3'
    have HR2 : Hid (UAt w2 O u9z none 0 0) := HR1.out.below hb3'
    clear hb3 hb3' QF g0 g1 g2 g3 HR1
    go_wp2_with (first | (refine wpList_build0u rfl rfl ?_) | (refine wpList_store_u9 (.tmp 6) _ rfl rfl O u9z none 0 0 u9z none 0 0 rfl rfl HR2.out rfl ?_))
    intro wE hRE kE
    have HRE : Hid (UAt wE O u9z none 0 0) := hRE
    have HFE : Hid (Below w.heap.size w wE) := bel2.trans (kE.below (fun q e => by have e' : q = O := e; have := HO2.out; omega) bel2.size)
    clear hRE kE
    go_wp2
    (try simp only [Exit.inBlock, Exit.then])
    refine bodyPost_ret (results_u9_tmp rfl _ _ O u9z none 0 0 rfl HRE.out) rfl ?_
    exact ⟨E, (by rw [HE.out]; rfl), HFE.out, rfl⟩
  rw [if_neg c8] at HEX
  have h8 : 8 ≤ n := by omega
  have QF : Hid _ := fieldsU_ok a (some ⟨w1.heap.size, 0, none⟩) n cap bs _ HN.out (HD.out _ (bthen bel1 hb2)).seg (HD.out _ bel1).d256 HS8.out h8 h2 h3
  clear c8 hb2
  go_wp2_with fail
  refine Calls.mono QF.out ?_
  rintro e w2 ⟨g, c, rfl, hb3, hc1, hc2, hg0, _, f0, f1, f2, f3⟩
  have HGO : Hid (g ≠ O) := by
    have h1 := HR1.out.lt
    have h2 : w1.heap.size < (w1.alloc (.cells #[.int .i64 16, .int .i64 16, .int .i64 16, .int .i64 16] 77)).heap.size := by simp
    show g ≠ O
    omega
  clear hg0
  have hb3' := bthen HB2.out hb3
  have bel2 := bthen bel1 hb3'
  have HR2 : Hid (UAt w2 O u9z none 0 0) := HR1.out.below hb3'
  have HX2 : Hid (Boxed w2 B V x) := HX1.out.old hb3'
  have HY2 : Hid (Boxed w2 (B + 1) U y) := HY1.out.old hb3'
  obtain ⟨p0, hp0⟩ : ∃ p : Nat, p = bs.getD 0 0 * 256 + bs.getD 1 0 := ⟨_, rfl⟩
  obtain ⟨p1, hp1⟩ : ∃ p : Nat, p = bs.getD 2 0 * 256 + bs.getD 3 0 := ⟨_, rfl⟩
  obtain ⟨sz, hsz⟩ : ∃ p : Nat, p = L4.uN bs := ⟨_, rfl⟩
  obtain ⟨sm, hsm⟩ : ∃ p : Nat, p = L4.uS bs := ⟨_, rfl⟩
  have HF0 : Hid (w2.cell? ⟨g, 0, none⟩ = some (.int .i64 (p0 : Nat))) := by show _ = _; rw [hp0]; exact f0
  have HF1 : Hid (w2.cell? ⟨g, 1, none⟩ = some (.int .i64 (p1 : Nat))) := by show _ = _; rw [hp1]; exact f1
  have HF2 : Hid (w2.cell? ⟨g, 2, none⟩ = some (.int .i64 (sz : Nat))) := by show _ = _; rw [hsz]; exact f2
  have HF3 : Hid (w2.cell? ⟨g, 3, none⟩ = some (.int .i64 (sm : Nat))) := by show _ = _; rw [hsm]; exact f3
  rw [← hsz, ← hsm] at HEX
  have HSZ : Hid (sz = L4.uN bs) := hsz
  have HSM : Hid (sm = L4.uS bs) := hsm
  have HP0 : Hid (p0 = bs.getD 0 0 * 256 + bs.getD 1 0) := hp0
  have HP1 : Hid (p1 = bs.getD 2 0 * 256 + bs.getD 3 0) := hp1
  have HGLT : Hid (g < w2.heap.size) := World.block_lt_of_cell? w2 _ f0
  have cc : 4 ≤ c := hc1
  obtain ⟨z, hz⟩ : ∃ z : Bool, z = ((sm : Int) == 0) := ⟨_, rfl⟩
  have HZT : Hid (z = true ↔ sm = 0) := by
    show _ ↔ _
    rw [hz, beq_iff_eq]
    omega
  have HZ : Hid (((sm : Int) == 0) = z) := hz.symm
  clear hb3 hb3' QF g0 g1 g2 g3 HR1 f0 f1 f2 f3 HB2 HS8 hp0 hp1 hsz hsm HX1 HY1 hz
  go_upto_region 9 with fail
  refine MixH.start (fun A => Below w2.heap.size w2 A) (by kernel_rfl) ?_
  obtain ⟨w3, hw3⟩ : ∃ w3, w3 = w2.drew := ⟨_, rfl⟩
  have hS : Below w2.heap.size w2 w3 := by rw [hw3]; exact (Below.refl _ _).drew
  rw [← hw3]
  clear hw3
  refine MixH.takes [true, true, false, true, true] 5 (by kernel_rfl) (by kernel_rfl) (by decide) (by kernel_rfl) hS (fun K hK => ?_)
  simp only [Mix.pick]
  repeat (go_big_quiet_step (fail))
  refine wpQuiet_nil (hK _ ?_)
  clear hK K
  refine MixH.take 4 2 _ (.int .i64 (sz : Nat)) rfl (by kernel_rfl) (by kernel_rfl) (by kernel_rfl) (by kernel_rfl) (yields_int (.tmp 36) rfl ⟨g, 2, none⟩ _ rfl rfl (fun A hA => (hA.cell (p := ⟨g, 2, none⟩) HGLT.out).trans HF2.out)) hS (fun a' ha => ?_)
  simp only [Act.put, List.setIfInBounds_toArray, List.set_cons_succ, List.set_cons_zero] at ha
  subst ha
  refine MixH.take 3 5 _ (.int .i64 (sm : Nat)) rfl (by kernel_rfl) (by kernel_rfl) (by kernel_rfl) (by kernel_rfl) (yields_int (.tmp 39) rfl ⟨g, 3, none⟩ _ rfl rfl (fun A hA => (hA.cell (p := ⟨g, 3, none⟩) HGLT.out).trans HF3.out)) hS (fun a' ha => ?_)
  simp only [Act.put, List.setIfInBounds_toArray, List.set_cons_succ, List.set_cons_zero] at ha
  subst ha
  refine MixH.takes [false, false, false, false, false, false, true, true, true] 0 (by kernel_rfl) (by kernel_rfl) (by decide) (by kernel_rfl) hS (fun K hK => ?_)
  simp only [Mix.pick]
  repeat (go_big_quiet_step (fail))
  refine wpQuiet_nil (hK _ ?_)
  clear hK K
  refine MixH.done (by kernel_rfl) ?_
  rw [HZ.out]
  have bel3 := bthen bel2 hS
  have HR3 : Hid (UAt w3 O u9z none 0 0) := HR2.out.below hS
  have HX3 : Hid (Boxed w3 B V x) := HX2.out.old hS
  have HY3 : Hid (Boxed w3 (B + 1) U y) := HY2.out.old hS
  have HG0 : Hid (w3.cell? ⟨g, 0, none⟩ = some (.int .i64 (p0 : Nat))) := (hS.cell (p := ⟨g, 0, none⟩) HGLT.out).trans HF0.out
  have HG1 : Hid (w3.cell? ⟨g, 1, none⟩ = some (.int .i64 (p1 : Nat))) := (hS.cell (p := ⟨g, 1, none⟩) HGLT.out).trans HF1.out
  have HGLT3 : Hid (g < w3.heap.size) := Nat.lt_of_lt_of_le HGLT.out hS.size
  clear hS HR2 HX2 HY2 HF0 HF1 HF2 HF3
  by_cases cS : sz < 8
  · have cS' : (sz : Int) < 8 := by omega
    rw [if_pos (Or.inl cS)] at HEX
    have HE : Hid (E = 92) := HEX.out
    clear cS HEX
    go_wp2_with (first | (refine wpList_build0u rfl rfl ?_) | (refine wpList_store_u9 (.tmp 6) _ rfl rfl O u9z none 0 0 u9z none 0 0 rfl rfl HR3.out rfl ?_))
    intro wE hRE kE
    have HRE : Hid (UAt wE O u9z none 0 0) := hRE
    have HFE : Hid (Below w.heap.size w wE) := bel3.trans (kE.below (fun q e => by have e' : q = O := e; have := HO2.out; omega) bel3.size)
    clear hRE kE
    go_wp2
    (try simp only [Exit.inBlock, Exit.then])
    refine bodyPost_ret (results_u9_tmp rfl _ _ O u9z none 0 0 rfl HRE.out) rfl ?_
    exact ⟨E, (by rw [HE.out]; rfl), HFE.out, rfl⟩
  by_cases cL : n < sz
  · have cS' : ¬ (sz : Int) < 8 := by omega
    have cL' : (n : Int) < (sz : Int) := by omega
    rw [if_pos (Or.inr cL)] at HEX
    have HE : Hid (E = 92) := HEX.out
    clear cL cS HEX
    go_wp2_with (first | (refine wpList_build0u rfl rfl ?_) | (refine wpList_store_u9 (.tmp 6) _ rfl rfl O u9z none 0 0 u9z none 0 0 rfl rfl HR3.out rfl ?_))
    intro wE hRE kE
    have HRE : Hid (UAt wE O u9z none 0 0) := hRE
    have HFE : Hid (Below w.heap.size w wE) := bel3.trans (kE.below (fun q e => by have e' : q = O := e; have := HO2.out; omega) bel3.size)
    clear hRE kE
    go_wp2
    (try simp only [Exit.inBlock, Exit.then])
    refine bodyPost_ret (results_u9_tmp rfl _ _ O u9z none 0 0 rfl HRE.out) rfl ?_
    exact ⟨E, (by rw [HE.out]; rfl), HFE.out, rfl⟩
  have cS' : ¬ (sz : Int) < 8 := by omega
  have cL' : ¬ (n : Int) < (sz : Int) := by omega
  rw [if_neg (by omega)] at HEX
  have s8 : 8 ≤ sz := by omega
  have sN : sz ≤ n := by omega
  have s65 : sz ≤ 65535 := by omega
  clear cS cL
  have q1 : IntKind.i64.wrap ((sz : Int) - 8) = (sz : Int) - 8 := by rw [IntKind.wrap_i64]; omega
  have e8 : ((sz - 8 : Nat) : Int) = (sz : Int) - 8 := by omega
  have HQW : Hid (∀ A, Calls Tryd.prog 33 #[.slice a n cap, .int .i64 8, .int .i64 ((sz : Int) - 8)] A fun e w' => e = .returned (.tuple #[.slice (cutA a 8 (sz - 8)) (sz - 8) (sz - 8), .int .i64 0]) ∧ Below A.heap.size A w') := by
    intro A
    have := window_ok a n cap 8 (sz - 8) A (by omega) h2 h3
    rw [e8] at this
    exact this
  have HM : Hid (puC 0 a bs = uC ⟨(p0 : Nat), (p1 : Nat), z, (bs.drop 8).take (sz - 8)⟩ (cutA a 8 (sz - 8)) (sz - 8) (sz - 8)) := by
    show _ = _
    unfold puC
    rw [if_pos rfl, HSZ.out]
    congr 1
    unfold L4.uP
    rw [HP0.out, HP1.out]
    congr 1
    rw [Bool.eq_iff_iff, decide_eq_true_eq, HZT.out, HSM.out]
  have s0 : (0 : Int) ≤ (sz : Int) := by omega
  have sC : (sz : Int) ≤ (cap : Int) := by omega
  have HGD3 : Hid _ := HGD2.out sz s65 sN
  clear e8 HGD2
  cases z with
  | true =>
    have hs0 : sm = 0 := HZT.out.1 rfl
    by_cases c6 : V = 6
    · subst c6
      rw [if_pos (Or.inl ⟨hs0, rfl⟩)] at HEX
      have HE : Hid (E = 93) := HEX.out
      clear hs0 HEX
      go_upto_region 12 with fail
      refine MixH.start (fun A => Below w3.heap.size w3 A) (by kernel_rfl) ?_
      obtain ⟨w4, hw4⟩ : ∃ w4, w4 = w3.drew := ⟨_, rfl⟩
      have hS : Below w3.heap.size w3 w4 := by rw [hw4]; exact (Below.refl _ _).drew
      rw [← hw4]
      clear hw4
      refine MixH.takes [true, true, true] 16 (by kernel_rfl) (by kernel_rfl) (by decide) (by kernel_rfl) hS (fun K hK => ?_)
      simp only [Mix.pick]
      repeat (go_big_quiet_step (fail))
      refine wpQuiet_nil (hK _ ?_)
      clear hK K
      refine MixH.take 15 3 _ (.int .i64 6) rfl (by kernel_rfl) (by kernel_rfl) (by kernel_rfl) (by kernel_rfl) (yields_int (.tmp 54) rfl ⟨B, 0, none⟩ _ rfl rfl (fun A hA => (HX3.out.old hA).ver)) hS (fun a' ha => ?_)
      simp only [Act.put, List.setIfInBounds_toArray, List.set_cons_succ, List.set_cons_zero] at ha
      subst ha
      refine MixH.takes [false, false, false, false, true, true, true, true, true, true] 9 (by kernel_rfl) (by kernel_rfl) (by decide) (by kernel_rfl) hS (fun K hK => ?_)
      simp only [Mix.pick]
      repeat (go_big_quiet_step (fail))
      refine wpQuiet_nil (hK _ ?_)
      clear hK K
      refine MixH.take 8 10 _ (undef) rfl (by kernel_rfl) (by kernel_rfl) (by kernel_rfl) (by kernel_rfl) (.inr ⟨rfl, rfl⟩) hS (fun a' ha => ?_)
      simp only [Act.put, List.setIfInBounds_toArray, List.set_cons_succ, List.set_cons_zero] at ha
      subst ha
      refine MixH.take 7 11 _ (undef) rfl (by kernel_rfl) (by kernel_rfl) (by kernel_rfl) (by kernel_rfl) (.inr ⟨rfl, rfl⟩) hS (fun a' ha => ?_)
      simp only [Act.put, List.setIfInBounds_toArray, List.set_cons_succ, List.set_cons_zero] at ha
      subst ha
      refine MixH.takes [false, false, false, false, false, false, false, false, false, false, false, false, true, true, true] 4 (by kernel_rfl) (by kernel_rfl) (by decide) (by kernel_rfl) hS (fun K hK => ?_)
      simp only [Mix.pick]
      repeat (go_big_quiet_step (fail))
      refine wpQuiet_nil (hK _ ?_)
      clear hK K
      refine MixH.take 3 15 _ (undef) rfl (by kernel_rfl) (by kernel_rfl) (by kernel_rfl) (by kernel_rfl) (.inr ⟨rfl, rfl⟩) hS (fun a' ha => ?_)
      simp only [Act.put, List.setIfInBounds_toArray, List.set_cons_succ, List.set_cons_zero] at ha
      subst ha
      refine MixH.takes [false, false, false, false, false, false, false, false, false, false, false, false, false, false, false, false, true, true, true] 0 (by kernel_rfl) (by kernel_rfl) (by decide) (by kernel_rfl) hS (fun K hK => ?_)
      simp only [Mix.pick]
      repeat (go_big_quiet_step (fail))
      refine wpQuiet_nil (hK _ ?_)
      clear hK K
      refine MixH.done (by kernel_rfl) ?_
      have bel4 := bthen bel3 hS
      have HR4 : Hid (UAt w4 O u9z none 0 0) := HR3.out.below hS
      clear hS
      go_wp2_with (first | (refine wpList_build0u rfl rfl ?_) | (refine wpList_store_u9 (.tmp 6) _ rfl rfl O u9z none 0 0 u9z none 0 0 rfl rfl HR4.out rfl ?_))
      intro wE hRE kE
      have HRE : Hid (UAt wE O u9z none 0 0) := hRE
      have HFE : Hid (Below w.heap.size w wE) := bel4.trans (kE.below (fun q e => by have e' : q = O := e; have := HO2.out; omega) bel4.size)
      clear hRE kE
      go_wp2
      (try simp only [Exit.inBlock, Exit.then])
      refine bodyPost_ret (results_u9_tmp rfl _ _ O u9z none 0 0 rfl HRE.out) rfl ?_
      exact ⟨E, (by rw [HE.out]; rfl), HFE.out, rfl⟩
    · have c6' : (V == 6) = false := by rw [beq_eq_false_iff_ne]; exact c6
      rw [if_neg (by rintro (⟨_, h⟩ | ⟨h, _⟩); exact c6 h; exact h hs0)] at HEX
      have HE : Hid (E = 0) := HEX.out
      clear hs0 HEX c6
      go_upto_region 12 with fail
      refine MixH.start (fun A => Below w3.heap.size w3 A) (by kernel_rfl) ?_
      obtain ⟨w4, hw4⟩ : ∃ w4, w4 = w3.drew := ⟨_, rfl⟩
      have hS : Below w3.heap.size w3 w4 := by rw [hw4]; exact (Below.refl _ _).drew
      rw [← hw4]
      clear hw4
      refine MixH.takes [true, true, true] 16 (by kernel_rfl) (by kernel_rfl) (by decide) (by kernel_rfl) hS (fun K hK => ?_)
      simp only [Mix.pick]
      repeat (go_big_quiet_step (fail))
      refine wpQuiet_nil (hK _ ?_)
      clear hK K
      refine MixH.take 15 3 _ (.int .i64 V) rfl (by kernel_rfl) (by kernel_rfl) (by kernel_rfl) (by kernel_rfl) (yields_int (.tmp 54) rfl ⟨B, 0, none⟩ _ rfl rfl (fun A hA => (HX3.out.old hA).ver)) hS (fun a' ha => ?_)
      simp only [Act.put, List.setIfInBounds_toArray, List.set_cons_succ, List.set_cons_zero] at ha
      subst ha
      refine MixH.takes [false, false, false, false, true, true, true, true, true, true] 9 (by kernel_rfl) (by kernel_rfl) (by decide) (by kernel_rfl) hS (fun K hK => ?_)
      simp only [Mix.pick]
      repeat (go_big_quiet_step (fail))
      refine wpQuiet_nil (hK _ ?_)
      clear hK K
      refine MixH.take 8 10 _ (undef) rfl (by kernel_rfl) (by kernel_rfl) (by kernel_rfl) (by kernel_rfl) (.inr ⟨rfl, rfl⟩) hS (fun a' ha => ?_)
      simp only [Act.put, List.setIfInBounds_toArray, List.set_cons_succ, List.set_cons_zero] at ha
      subst ha
      refine MixH.take 7 11 _ (undef) rfl (by kernel_rfl) (by kernel_rfl) (by kernel_rfl) (by kernel_rfl) (.inr ⟨rfl, rfl⟩) hS (fun a' ha => ?_)
      simp only [Act.put, List.setIfInBounds_toArray, List.set_cons_succ, List.set_cons_zero] at ha
      subst ha
      refine MixH.takes [false, false, false, false, false, false, false, false, false, false, false, false, true, true, true] 4 (by kernel_rfl) (by kernel_rfl) (by decide) (by kernel_rfl) hS (fun K hK => ?_)
      simp only [Mix.pick]
      repeat (go_big_quiet_step (fail))
      refine wpQuiet_nil (hK _ ?_)
      clear hK K
      refine MixH.take 3 15 _ (undef) rfl (by kernel_rfl) (by kernel_rfl) (by kernel_rfl) (by kernel_rfl) (.inr ⟨rfl, rfl⟩) hS (fun a' ha => ?_)
      simp only [Act.put, List.setIfInBounds_toArray, List.set_cons_succ, List.set_cons_zero] at ha
      subst ha
      refine MixH.takes [false, false, false, false, false, false, false, false, false, false, false, false, false, false, false, false, true, true, true] 0 (by kernel_rfl) (by kernel_rfl) (by decide) (by kernel_rfl) hS (fun K hK => ?_)
      simp only [Mix.pick]
      repeat (go_big_quiet_step (fail))
      refine wpQuiet_nil (hK _ ?_)
      clear hK K
      refine MixH.done (by kernel_rfl) ?_
      have bel4 := bthen bel3 hS
      have HR4 : Hid (UAt w4 O u9z none 0 0) := HR3.out.below hS
      have HH0 : Hid (w4.cell? ⟨g, 0, none⟩ = some (.int .i64 (p0 : Nat))) := (hS.cell (p := ⟨g, 0, none⟩) HGLT3.out).trans HG0.out
      have HH1 : Hid (w4.cell? ⟨g, 1, none⟩ = some (.int .i64 (p1 : Nat))) := (hS.cell (p := ⟨g, 1, none⟩) HGLT3.out).trans HG1.out
      have HGLT4 : Hid (g < w4.heap.size) := Nat.lt_of_lt_of_le HGLT3.out hS.size
      clear hS HG0 HG1 HGLT3
      have QW : Hid _ := HQW.out w4
      clear HQW
      go_wp2_with fail
      refine Calls.mono QW.out ?_
      rintro e w5 ⟨rfl, hb5⟩
      have bel5 := bthen bel4 hb5
      have HR5 : Hid (UAt w5 O u9z none 0 0) := HR4.out.below hb5
      have HJ0 : Hid (w5.cell? ⟨g, 0, none⟩ = some (.int .i64 (p0 : Nat))) := (hb5.cell (p := ⟨g, 0, none⟩) HGLT4.out).trans HH0.out
      have HJ1 : Hid (w5.cell? ⟨g, 1, none⟩ = some (.int .i64 (p1 : Nat))) := (hb5.cell (p := ⟨g, 1, none⟩) HGLT4.out).trans HH1.out
      clear hb5 QW HR4 HH0 HH1
      go_upto_region 17 with fail
      refine MixH.start (fun A => Ch (fun q => q = O) w5 A) (by kernel_rfl) ?_
      obtain ⟨wA, hwA⟩ : ∃ wA, wA = w5.drew := ⟨_, rfl⟩
      have hS : Ch (fun q => q = O) w5 wA := by rw [hwA]; exact (Ch.refl _ _).drew
      have HRA : Hid (UAt wA O u9z none 0 0) := by rw [hwA]; exact HR5.out
      rw [← hwA]
      clear hwA HR5
      refine MixH.takes [true, true, false, true, true, false, true, true] 5 (by kernel_rfl) (by kernel_rfl) (by decide) (by kernel_rfl) hS (fun K hK => ?_)
      simp only [Mix.pick]
      repeat (go_big_quiet_step (fail))
      refine wpQuiet_nil (hK _ ?_)
      clear hK K
      refine MixH.take 4 2 _ (.int .i64 (p0 : Nat)) rfl (by kernel_rfl) (by kernel_rfl) (by kernel_rfl) (by kernel_rfl) (yields_int (.tmp 86) rfl ⟨g, 0, none⟩ _ rfl rfl (fun A hA => hA.cell HJ0.out HGO.out)) hS (fun a' ha => ?_)
      simp only [Act.put, List.setIfInBounds_toArray, List.set_cons_succ, List.set_cons_zero] at ha
      subst ha
      refine MixH.take 3 5 _ (.int .i64 (p1 : Nat)) rfl (by kernel_rfl) (by kernel_rfl) (by kernel_rfl) (by kernel_rfl) (yields_int (.tmp 89) rfl ⟨g, 1, none⟩ _ rfl rfl (fun A hA => hA.cell HJ1.out HGO.out)) hS (fun a' ha => ?_)
      simp only [Act.put, List.setIfInBounds_toArray, List.set_cons_succ, List.set_cons_zero] at ha
      subst ha
      refine MixH.takes [false, false, false, false, false, false, false, false, true] 2 (by kernel_rfl) (by kernel_rfl) (by decide) (by kernel_rfl) hS (fun K hK => ?_)
      simp only [Mix.pick]
      repeat (go_big_quiet_step (fail))
      refine wpQuiet_nil (hK _ ?_)
      clear hK K
      refine MixH.one [false, false, false, false, false, false, false, false, false, true] 1 9 _ rfl rfl (by kernel_rfl) (by kernel_rfl) (fun K hK => ?_)
      simp only [Mix.pick]
      go_wp2_with (first | (refine wpList_store_u9 (.tmp 6) (.tmp 93) rfl rfl O u9z none 0 0 ⟨(p0 : Nat), (p1 : Nat), true, (bs.drop 8).take (sz - 8)⟩ (cutA a 8 (sz - 8)) (sz - 8) (sz - 8) rfl rfl HRA.out rfl ?_))
      intro wE hRE kE
      have HRE : Hid (UAt wE O ⟨(p0 : Nat), (p1 : Nat), true, (bs.drop 8).take (sz - 8)⟩ (cutA a 8 (sz - 8)) (sz - 8) (sz - 8)) := hRE
      replace hS : Ch (fun q => q = O) w5 wE := hS.trans kE (fun x _ h => h)
      clear hRE kE
      go_wp2
      refine ⟨rfl, hK _ _ hS ?_⟩
      clear hK K
      refine MixH.takes [false, false, false, false, false, false, false, false, false, false, true] 0 (by kernel_rfl) (by kernel_rfl) (by decide) (by kernel_rfl) hS (fun K hK => ?_)
      simp only [Mix.pick]
      repeat (go_big_quiet_step (fail))
      refine wpQuiet_nil (hK _ ?_)
      clear hK K
      refine MixH.done (by kernel_rfl) ?_
      have HFE : Hid (Below w.heap.size w wE) := bel5.trans (hS.below (fun q e => by have e' : q = O := e; have := HO2.out; omega) bel5.size)
      clear hS
      go_wp2
      (try simp only [Exit.inBlock, Exit.then])
      refine bodyPost_ret (results_u9_tmp rfl _ _ O ⟨(p0 : Nat), (p1 : Nat), true, (bs.drop 8).take (sz - 8)⟩ (cutA a 8 (sz - 8)) (sz - 8) (sz - 8) rfl HRE.out) rfl ?_
      exact ⟨E, (by rw [HE.out, HM.out]; rfl), HFE.out, rfl⟩
  | false =>
    have hs0 : sm ≠ 0 := fun h => by have := HZT.out.2 h; cases this
    go_upto_region 12 with fail
    refine MixH.start (fun A => Below w3.heap.size w3 A) (by kernel_rfl) ?_
    obtain ⟨w4, hw4⟩ : ∃ w4, w4 = w3.drew := ⟨_, rfl⟩
    have hS : Below w3.heap.size w3 w4 := by rw [hw4]; exact (Below.refl _ _).drew
    rw [← hw4]
    clear hw4
    refine MixH.takes [true, true, true] 16 (by kernel_rfl) (by kernel_rfl) (by decide) (by kernel_rfl) hS (fun K hK => ?_)
    simp only [Mix.pick]
    repeat (go_big_quiet_step (fail))
    refine wpQuiet_nil (hK _ ?_)
    clear hK K
    refine MixH.take 15 3 _ (undef) rfl (by kernel_rfl) (by kernel_rfl) (by kernel_rfl) (by kernel_rfl) (.inr ⟨rfl, rfl⟩) hS (fun a' ha => ?_)
    simp only [Act.put, List.setIfInBounds_toArray, List.set_cons_succ, List.set_cons_zero] at ha
    subst ha
    refine MixH.takes [false, false, false, false, true, true, true, true, true, true] 9 (by kernel_rfl) (by kernel_rfl) (by decide) (by kernel_rfl) hS (fun K hK => ?_)
    simp only [Mix.pick]
    repeat (go_big_quiet_step (fail))
    refine wpQuiet_nil (hK _ ?_)
    clear hK K
    refine MixH.take 8 10 _ (.agg (ipCells V x)) rfl (by kernel_rfl) (by kernel_rfl) (by kernel_rfl) (by kernel_rfl) (yields_ip (.tmp 3) rfl B V x rfl rfl (fun A hA => HX3.out.old hA)) hS (fun a' ha => ?_)
    simp only [Act.put, List.setIfInBounds_toArray, List.set_cons_succ, List.set_cons_zero] at ha
    subst ha
    refine MixH.take 7 11 _ (.agg (ipCells U y)) rfl (by kernel_rfl) (by kernel_rfl) (by kernel_rfl) (by kernel_rfl) (yields_ip (.tmp 4) rfl (B + 1) U y rfl rfl (fun A hA => HY3.out.old hA)) hS (fun a' ha => ?_)
    simp only [Act.put, List.setIfInBounds_toArray, List.set_cons_succ, List.set_cons_zero] at ha
    subst ha
    refine MixH.takes [false, false, false, false, false, false, false, false, false, false, false, false, true, true, true] 4 (by kernel_rfl) (by kernel_rfl) (by decide) (by kernel_rfl) hS (fun K hK => ?_)
    simp only [Mix.pick]
    repeat (go_big_quiet_step (fail))
    refine wpQuiet_nil (hK _ ?_)
    clear hK K
    refine MixH.one [false, false, false, false, false, false, false, false, false, false, false, false, false, false, false, true] 3 15 _ rfl rfl (by kernel_rfl) (by kernel_rfl) (fun K hK => ?_)
    simp only [Mix.pick]
    have Q1 : Hid _ := HGD3.out w4 (bthen bel3 hS)
    obtain ⟨gd, hgd⟩ : ∃ gd, gd = decide (S.fold (S.wv false (psL V U x y 17 (sz : Nat) ++ bs.take sz)) = 65535) := ⟨_, rfl⟩
    rw [← hgd] at Q1
    have HGD4 : Hid (gd = decide (S.fold (S.wv false (psL V U x y 17 (sz : Nat) ++ bs.take sz)) = 65535)) := hgd
    clear hgd
    go_wp2_with fail
    refine Calls.mono Q1.out ?_
    rintro e w5 ⟨rfl, hb5⟩
    replace hS := bthen hS hb5
    clear Q1 hb5
    go_wp2
    refine ⟨rfl, hK _ _ hS ?_⟩
    clear hK K
    clear HGD3
    obtain ⟨wq, hwq⟩ : ∃ wq, wq = w5 := ⟨_, rfl⟩
    rw [← hwq] at hS ⊢
    clear hwq
    refine MixH.takes [false, false, false, false, false, false, false, false, false, false, false, false, false, false, false, false, true, true, true] 0 (by kernel_rfl) (by kernel_rfl) (by decide) (by kernel_rfl) hS (fun K hK => ?_)
    simp only [Mix.pick]
    repeat (go_big_quiet_step (fail))
    refine wpQuiet_nil (hK _ ?_)
    clear hK K
    refine MixH.done (by kernel_rfl) ?_
    obtain ⟨w4, hw4⟩ : ∃ w4, w4 = wq := ⟨_, rfl⟩
    rw [← hw4] at hS ⊢
    clear hw4
    have bel4 := bthen bel3 hS
    have HR4 : Hid (UAt w4 O u9z none 0 0) := HR3.out.below hS
    have HH0 : Hid (w4.cell? ⟨g, 0, none⟩ = some (.int .i64 (p0 : Nat))) := (hS.cell (p := ⟨g, 0, none⟩) HGLT3.out).trans HG0.out
    have HH1 : Hid (w4.cell? ⟨g, 1, none⟩ = some (.int .i64 (p1 : Nat))) := (hS.cell (p := ⟨g, 1, none⟩) HGLT3.out).trans HG1.out
    have HGLT4 : Hid (g < w4.heap.size) := Nat.lt_of_lt_of_le HGLT3.out hS.size
    clear hS HG0 HG1 HGLT3
    cases gd with
    | false =>
      have hgf := of_decide_eq_false HGD4.out.symm
      rw [if_pos (Or.inr ⟨hs0, hgf⟩)] at HEX
      have HE : Hid (E = 93) := HEX.out
      clear HEX hgf hs0
      go_wp2_with (first | (refine wpList_build0u rfl rfl ?_) | (refine wpList_store_u9 (.tmp 6) _ rfl rfl O u9z none 0 0 u9z none 0 0 rfl rfl HR4.out rfl ?_))
      intro wE hRE kE
      have HRE : Hid (UAt wE O u9z none 0 0) := hRE
      have HFE : Hid (Below w.heap.size w wE) := bel4.trans (kE.below (fun q e => by have e' : q = O := e; have := HO2.out; omega) bel4.size)
      clear hRE kE
      go_wp2
      (try simp only [Exit.inBlock, Exit.then])
      refine bodyPost_ret (results_u9_tmp rfl _ _ O u9z none 0 0 rfl HRE.out) rfl ?_
      exact ⟨E, (by rw [HE.out]; rfl), HFE.out, rfl⟩
    | true =>
      have hgt := of_decide_eq_true HGD4.out.symm
      rw [if_neg (by rintro (⟨h, _⟩ | ⟨_, h⟩); exact hs0 h; exact h hgt)] at HEX
      have HE : Hid (E = 0) := HEX.out
      clear HEX hgt hs0
      have QW : Hid _ := HQW.out w4
      clear HQW
      go_wp2_with fail
      refine Calls.mono QW.out ?_
      rintro e w5 ⟨rfl, hb5⟩
      have bel5 := bthen bel4 hb5
      have HR5 : Hid (UAt w5 O u9z none 0 0) := HR4.out.below hb5
      have HJ0 : Hid (w5.cell? ⟨g, 0, none⟩ = some (.int .i64 (p0 : Nat))) := (hb5.cell (p := ⟨g, 0, none⟩) HGLT4.out).trans HH0.out
      have HJ1 : Hid (w5.cell? ⟨g, 1, none⟩ = some (.int .i64 (p1 : Nat))) := (hb5.cell (p := ⟨g, 1, none⟩) HGLT4.out).trans HH1.out
      clear hb5 QW HR4 HH0 HH1
      go_upto_region 17 with fail
      refine MixH.start (fun A => Ch (fun q => q = O) w5 A) (by kernel_rfl) ?_
      obtain ⟨wA, hwA⟩ : ∃ wA, wA = w5.drew := ⟨_, rfl⟩
      have hS : Ch (fun q => q = O) w5 wA := by rw [hwA]; exact (Ch.refl _ _).drew
      have HRA : Hid (UAt wA O u9z none 0 0) := by rw [hwA]; exact HR5.out
      rw [← hwA]
      clear hwA HR5
      refine MixH.takes [true, true, false, true, true, false, true, true] 5 (by kernel_rfl) (by kernel_rfl) (by decide) (by kernel_rfl) hS (fun K hK => ?_)
      simp only [Mix.pick]
      repeat (go_big_quiet_step (fail))
      refine wpQuiet_nil (hK _ ?_)
      clear hK K
      refine MixH.take 4 2 _ (.int .i64 (p0 : Nat)) rfl (by kernel_rfl) (by kernel_rfl) (by kernel_rfl) (by kernel_rfl) (yields_int (.tmp 86) rfl ⟨g, 0, none⟩ _ rfl rfl (fun A hA => hA.cell HJ0.out HGO.out)) hS (fun a' ha => ?_)
      simp only [Act.put, List.setIfInBounds_toArray, List.set_cons_succ, List.set_cons_zero] at ha
      subst ha
      refine MixH.take 3 5 _ (.int .i64 (p1 : Nat)) rfl (by kernel_rfl) (by kernel_rfl) (by kernel_rfl) (by kernel_rfl) (yields_int (.tmp 89) rfl ⟨g, 1, none⟩ _ rfl rfl (fun A hA => hA.cell HJ1.out HGO.out)) hS (fun a' ha => ?_)
      simp only [Act.put, List.setIfInBounds_toArray, List.set_cons_succ, List.set_cons_zero] at ha
      subst ha
      refine MixH.takes [false, false, false, false, false, false, false, false, true] 2 (by kernel_rfl) (by kernel_rfl) (by decide) (by kernel_rfl) hS (fun K hK => ?_)
      simp only [Mix.pick]
      repeat (go_big_quiet_step (fail))
      refine wpQuiet_nil (hK _ ?_)
      clear hK K
      refine MixH.one [false, false, false, false, false, false, false, false, false, true] 1 9 _ rfl rfl (by kernel_rfl) (by kernel_rfl) (fun K hK => ?_)
      simp only [Mix.pick]
      go_wp2_with (first | (refine wpList_store_u9 (.tmp 6) (.tmp 93) rfl rfl O u9z none 0 0 ⟨(p0 : Nat), (p1 : Nat), false, (bs.drop 8).take (sz - 8)⟩ (cutA a 8 (sz - 8)) (sz - 8) (sz - 8) rfl rfl HRA.out rfl ?_))
      intro wE hRE kE
      have HRE : Hid (UAt wE O ⟨(p0 : Nat), (p1 : Nat), false, (bs.drop 8).take (sz - 8)⟩ (cutA a 8 (sz - 8)) (sz - 8) (sz - 8)) := hRE
      replace hS : Ch (fun q => q = O) w5 wE := hS.trans kE (fun x _ h => h)
      clear hRE kE
      go_wp2
      refine ⟨rfl, hK _ _ hS ?_⟩
      clear hK K
      refine MixH.takes [false, false, false, false, false, false, false, false, false, false, true] 0 (by kernel_rfl) (by kernel_rfl) (by decide) (by kernel_rfl) hS (fun K hK => ?_)
      simp only [Mix.pick]
      repeat (go_big_quiet_step (fail))
      refine wpQuiet_nil (hK _ ?_)
      clear hK K
      refine MixH.done (by kernel_rfl) ?_
      have HFE : Hid (Below w.heap.size w wE) := bel5.trans (hS.below (fun q e => by have e' : q = O := e; have := HO2.out; omega) bel5.size)
      clear hS
      go_wp2
      (try simp only [Exit.inBlock, Exit.then])
      refine bodyPost_ret (results_u9_tmp rfl _ _ O ⟨(p0 : Nat), (p1 : Nat), false, (bs.drop 8).take (sz - 8)⟩ (cutA a 8 (sz - 8)) (sz - 8) (sz - 8) rfl HRE.out) rfl ?_
      exact ⟨E, (by rw [HE.out, HM.out]; rfl), HFE.out, rfl⟩
end Go.Proofs.YtfoeepbndfnifaaDoor
