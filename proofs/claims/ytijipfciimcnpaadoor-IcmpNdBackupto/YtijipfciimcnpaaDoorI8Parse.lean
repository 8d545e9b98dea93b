/-
  icmp.Parse.
-/
import Derived.Test.YtijipfciimcnpaaDoorI8Fn2
namespace Go.Proofs.YtijipfciimcnpaaDoor
open Go.RowKit
open I8 (M8)

/-- what Parse answers: the message's cells -/
def pC (er : Nat) (v : Int) (a : Option Addr) (n : Nat) (bs : List Nat) : Array Value := if er = 0 then mC (I8.pM v bs) (cutA a 8 (n - 8)) (n - 8) (n - 8) else mC m8z none 0 0
theorem ver_cases {v : Int} (h : I8.isV v = true) : v = 4 ∨ v = 6 := by simpa [I8.isV] using h
set_option maxHeartbeats 3200000 in
set_option maxRecDepth 100000 in
theorem icParse_any (v V U : Int) (x y : Nat → Nat) (a : Option Addr) (n cap : Nat) (bs : List Nat) (w : World) (hn : bs.length = n) (hw : Wid8 w) (hb : n ≤ 65515 → Seg .u8 w a (toI bs)) (h256 : ∀ z ∈ bs, z < 256) (h2 : n ≤ cap) (h3 : cap ≤ 9223372036854775807) (hx : ∀ i, i < 16 → x i < 256) (hy : ∀ i, i < 16 → y i < 256) :
    Calls Tryd.prog 29 #[.int .i64 v, .agg (ipCells V x), .agg (ipCells U y), .slice a n cap] w fun e w' => ∃ er, e = .returned (.tuple #[.agg (pC er v a n bs), .int .i64 (er : Nat)]) ∧ Below w.heap.size w w' ∧ er = I8.pE v (six6 V U) (psB v V U x y n) bs := by
  obtain ⟨A, hA⟩ : ∃ A, A = ipCells V x := ⟨_, rfl⟩
  obtain ⟨C, hC⟩ : ∃ C, C = ipCells U y := ⟨_, rfl⟩
  have hx1 := boxed_new w V x 24
  have hy1 := boxed_new (w.alloc (.cells (ipCells V x) 24)) U y 24
  rw [World.size_alloc] at hy1
  have hx2 := hx1.old ((Below.refl _ _).alloc (Nat.le_refl _) (.cells (ipCells U y) 24))
  clear hx1
  rw [← hA] at hx2 hy1 ⊢
  rw [← hC] at hx2 hy1 ⊢
  have s2 : ((w.alloc (.cells A 24)).alloc (.cells C 24)).heap.size = w.heap.size + 1 + 1 := by simp
  have hr := mAt_new ((w.alloc (.cells A 24)).alloc (.cells C 24)) m8z none 0 0
  rw [s2] at hr
  have b3 : Below ((w.alloc (.cells A 24)).alloc (.cells C 24)).heap.size ((w.alloc (.cells A 24)).alloc (.cells C 24)) (((w.alloc (.cells A 24)).alloc (.cells C 24)).alloc (.cells (mC m8z none 0 0) 31)) := (Below.refl _ _).alloc (Nat.le_refl _) _
  have hx3 := hx2.old b3
  have hy3 := hy1.old b3
  have bel : Below w.heap.size w (((w.alloc (.cells A 24)).alloc (.cells C 24)).alloc (.cells (mC m8z none 0 0) 31)) := (((Below.refl _ _).alloc (Nat.le_refl _) _).alloc (by simp) _).alloc (by simp; omega) _
  clear hx2 hy1 b3 s2
  obtain ⟨W, hW⟩ : ∃ W, W = ((w.alloc (.cells A 24)).alloc (.cells C 24)).alloc (.cells #[.int .i64 0, .int .i64 0, .int .i64 0, .int .i64 0, .slice none 0 0] 31) := ⟨_, rfl⟩
  have hW2 : W = ((w.alloc (.cells A 24)).alloc (.cells C 24)).alloc (.cells (mC m8z none 0 0) 31) := hW
  rw [← hW2] at hr hx3 hy3 bel
  obtain ⟨B, hB⟩ : ∃ B, B = w.heap.size := ⟨_, rfl⟩
  have HB : Hid (w.heap.size = B) := hB.symm
  rw [← hB] at hr hx3 hy3
  obtain ⟨O, hO⟩ : ∃ O, O = B + 1 + 1 := ⟨_, rfl⟩
  rw [← hO] at hr
  have HW : Hid (((w.alloc (.cells A 24)).alloc (.cells C 24)).alloc (.cells #[.int .i64 0, .int .i64 0, .int .i64 0, .int .i64 0, .slice none 0 0] 31) = W) := hW.symm
  have HO : Hid (B + 1 + 1 = O) := hO.symm
  have HO2 : Hid (w.heap.size + 2 = O) := by show _ = _; rw [hO, hB]
  have HR : Hid (MAt W O m8z none 0 0) := hr
  have HX : Hid (∀ i, i < 16 → x i < 256) := hx
  have HY : Hid (∀ i, i < 16 → y i < 256) := hy
  have HN : Hid (bs.length = n) := hn
  have H256 : Hid (∀ z ∈ bs, z < 256) := h256
  have HSEGc : Hid (n ≤ 65515 → ∀ A, Below w.heap.size w A → Seg .u8 A a (toI bs)) := fun hn A hA => (hb hn).old hA
  have HWID : Hid (∀ A, Below w.heap.size w A → Wid8 A) := fun A hA => hw.old hA
  have HPS : Hid (I8.isV v = true → n ≤ 65535 → ∀ A, Calls Tryd.prog 55 #[.int .i64 v, .agg (ipCells V x), .agg (ipCells U y), .int .i64 n] A fun e w' => ∃ p, e = .returned (.tuple #[p, .int .i64 ((psX v V U : Nat) : Int)]) ∧ Below A.heap.size A w' ∧ (psX v V U = 0 → OwnB w' A.heap.size p (psB v V U x y n).length (psB v V U x y n)) ∧ (psX v V U ≠ 0 → p = .slice none 0 0)) := fun k1 k2 A => icPseudo_any v V U x y n A k1 k2
  obtain ⟨E, hE⟩ : ∃ E, E = I8.pE v (six6 V U) (psB v V U x y n) bs := ⟨_, rfl⟩
  rw [← hE]
  have HEQ : Hid (E = I8.pE v (six6 V U) (psB v V U x y n) bs) := hE
  have HEX : Hid (E = if 65515 < n then 2 else if I8.isV v then (if psX v V U = 0 then (if n < 8 then 80 else if S.fold (S.wv false (psB v V U x y n ++ bs)) = 65535 then 0 else 81) else 20) else 1) := by
    show _ = _
    rw [hE]
    unfold I8.pE psX
    rw [hn]
    by_cases c6 : v = 6 ∧ six6 V U = false
    · simp [c6]
    · rw [if_neg c6, if_neg c6]; simp
  have HXB : Hid (Boxed W B V x) := hx3
  have HYB : Hid (Boxed W (B + 1) U y) := hy3
  obtain ⟨psx, hpsx⟩ : ∃ psx, psx = psX v V U := ⟨_, rfl⟩
  rw [← hpsx] at HPS HEX
  have HPSX : Hid (psx = psX v V U) := hpsx
  clear hB hW hW2 hr hx3 hy3 hO hx hy hn hb h256 hw hE hA hC hpsx
  by_cases c1 : 65515 < n
  · have c1' : (65515 : Int) < (n : Int) := by omega
    rw [if_pos c1] at HEX
    have HE : Hid (E = 2) := HEX.out
    clear c1 HEX
    go_enter Tryd.func29, Tryd.ntmps29
    go_upto_region 1 with fail
    rw [HB.out, HO.out, HW.out]
    go_wp2_with (first | (refine wpList_build0 rfl rfl ?_) | (refine wpList_store_m8 (.tmp 8) _ rfl rfl O m8z m8z none none 0 0 0 0 rfl rfl HR.out rfl ?_))
    intro wE hRE kE
    have HRE : Hid (MAt wE O m8z none 0 0) := hRE
    have HFE : Hid (Below w.heap.size w wE) := bel.trans (kE.below (fun q e => by have e' : q = O := e; have := HO2.out; omega) bel.size)
    clear hRE kE
    go_wp2
    (try simp only [Exit.inBlock, Exit.then])
    refine bodyPost_ret (results_m8_tmp rfl _ _ O m8z none 0 0 rfl HRE.out) rfl ?_
    exact ⟨E, (by rw [HE.out]; rfl), HFE.out, rfl⟩
  rw [if_neg c1] at HEX
  have c1' : ¬ (65515 : Int) < (n : Int) := by omega
  have c1b : n ≤ 65515 := by omega
  have HSEG : Hid (∀ A, Below w.heap.size w A → Seg .u8 A a (toI bs)) := HSEGc.out c1b
  clear HSEGc
  clear c1
  cases hv : I8.isV v with
  | false =>
    rw [hv] at HEX
    have HE : Hid (E = 1) := HEX.out
    clear HEX
    go_enter Tryd.func29, Tryd.ntmps29
    go_upto_region 1 with fail
    rw [HB.out, HO.out, HW.out]
    go_wp2_with fail
    refine Calls.mono (icVer_any v _) ?_
    rintro e w1 ⟨rfl, rfl⟩
    rw [hv]
    go_wp2_with (first | (refine wpList_build0 rfl rfl ?_) | (refine wpList_store_m8 (.tmp 8) _ rfl rfl O m8z m8z none none 0 0 0 0 rfl rfl HR.out rfl ?_))
    intro wE hRE kE
    have HRE : Hid (MAt wE O m8z none 0 0) := hRE
    have HFE : Hid (Below w.heap.size w wE) := bel.trans (kE.below (fun q e => by have e' : q = O := e; have := HO2.out; omega) bel.size)
    clear hRE kE
    go_wp2
    (try simp only [Exit.inBlock, Exit.then])
    refine bodyPost_ret (results_m8_tmp rfl _ _ O m8z none 0 0 rfl HRE.out) rfl ?_
    exact ⟨E, (by rw [HE.out]; rfl), HFE.out, rfl⟩
  | true =>
  rw [hv, if_pos rfl] at HEX
  have HV : Hid (I8.isV v = true) := hv
  clear hv
  go_enter Tryd.func29, Tryd.ntmps29
  go_upto_region 1 with fail
  rw [HB.out, HO.out, HW.out]
  go_wp2_with fail
  refine Calls.mono (icVer_any v _) ?_
  rintro e w1 ⟨rfl, rfl⟩
  rw [HV.out]
  go_wp2_with (first | (refine wpList_load_ip (.tmp 5) rfl B V x rfl HXB.out rfl ?_) | (refine wpList_load_ip (.tmp 6) rfl (B + 1) U y rfl HYB.out rfl ?_))
  refine Calls.mono (HPS.out HV.out (by omega) W) ?_
  rintro e w1 ⟨p, rfl, hb1, hp1, hp2⟩
  have bel1 := bthen bel hb1
  have HR1 : Hid (MAt w1 O m8z none 0 0) := HR.out.below hb1
  have HP1 : Hid (psx = 0 → OwnB w1 w.heap.size p (psB v V U x y n).length (psB v V U x y n)) := fun h => owns_mono (hp1 h) bel.size
  clear HPS hb1 hp1 HXB HYB HR HW
  by_cases z : psx = 0
  case neg =>
    have z' : ((psx : Int) != 0) = true := by rw [bne_iff_ne]; omega
    obtain rfl := hp2 z
    rw [if_neg z] at HEX
    have HE : Hid (E = 20) := HEX.out
    have HZ20 : Hid (psx = 20) := by
      show _ = _
      rw [HPSX.out] at z ⊢
      unfold psX at z ⊢
      split
      · rfl
      · rename_i hh; rw [if_neg hh] at z; exact absurd rfl z
    rw [HZ20.out] at z' ⊢
    clear z hp2 HEX HP1
    go_wp2_with (first | (refine wpList_build0 rfl rfl ?_) | (refine wpList_store_m8 (.tmp 8) _ rfl rfl O m8z m8z none none 0 0 0 0 rfl rfl HR1.out rfl ?_))
    intro wE hRE kE
    have HRE : Hid (MAt wE O m8z none 0 0) := hRE
    have HFE : Hid (Below w.heap.size w wE) := bel1.trans (kE.below (fun q e => by have e' : q = O := e; have := HO2.out; omega) bel1.size)
    clear hRE kE
    go_wp2
    (try simp only [Exit.inBlock, Exit.then])
    refine bodyPost_ret (results_m8_tmp rfl _ _ O m8z none 0 0 rfl HRE.out) rfl ?_
    exact ⟨E, (by rw [HE.out]; rfl), HFE.out, rfl⟩
  rw [if_pos z] at HEX
  have HPB : Hid (OwnB w1 w.heap.size p (psB v V U x y n).length (psB v V U x y n)) := HP1.out z
  have HPSZ : Hid (psX v V U = 0) := by rw [← HPSX.out]; exact z
  obtain ⟨pb, hpb⟩ : ∃ pb, pb = psB v V U x y n := ⟨_, rfl⟩
  rw [← hpb] at HPB HEX HEQ
  have HPBE : Hid (pb = psB v V U x y n) := hpb
  obtain ⟨pl, hpl⟩ : ∃ pl, pl = pb.length := ⟨_, rfl⟩
  have hpl40 : pl ≤ 40 := by rw [hpl, hpb]; exact psB_len v V U x y n
  rw [← hpl] at HPB
  have HPL : Hid (pb.length = pl) := hpl.symm
  obtain ⟨pa, pcp, hpv⟩ := owns_shape HPB.out
  subst hpv
  subst z
  have g0 : w1.cell? ⟨0, 0, none⟩ = some (.int .i64 8) := HWID.out w1 bel1 0 _ rfl
  have g1 : w1.cell? ⟨0, 1, none⟩ = some (.int .i64 8) := HWID.out w1 bel1 1 _ rfl
  have g2 : w1.cell? ⟨0, 2, none⟩ = some (.int .i64 16) := HWID.out w1 bel1 2 _ rfl
  have g3 : w1.cell? ⟨0, 3, none⟩ = some (.int .i64 32) := HWID.out w1 bel1 3 _ rfl
  have HS8 : Hid _ := wid8_seg w1
  have hb2 : Below w1.heap.size w1 (w1.alloc (.cells #[.int .i64 8, .int .i64 8, .int .i64 16, .int .i64 32] 109)) := (Below.refl _ _).alloc (Nat.le_refl _) _
  have HB2 : Hid _ := hb2
  clear hp2 HP1 hpb hpl
  by_cases c8 : n < 8
  · rw [if_pos c8] at HEX
    have HE : Hid (E = 80) := HEX.out
    have QF : Hid _ := fields8_no a (some ⟨w1.heap.size, 0, none⟩) n cap _ HS8.out c8 h2 h3
    clear c8 HEX
    go_wp2_with fail
    refine Calls.mono QF.out ?_
    rintro e w2 ⟨rfl, hb3⟩
    have hb3' := bthen HB2.out hb3
    have bel2 := bthen bel1 hb3'
    have HR2 : Hid (MAt w2 O m8z none 0 0) := HR1.out.below hb3'
    clear hb3 hb3' QF g0 g1 g2 g3 HR1
    go_wp2_with (first | (refine wpList_build0 rfl rfl ?_) | (refine wpList_store_m8 (.tmp 8) _ rfl rfl O m8z m8z none none 0 0 0 0 rfl rfl HR2.out rfl ?_))
    intro wE hRE kE
    have HRE : Hid (MAt wE O m8z none 0 0) := hRE
    have HFE : Hid (Below w.heap.size w wE) := bel2.trans (kE.below (fun q e => by have e' : q = O := e; have := HO2.out; omega) bel2.size)
    clear hRE kE
    go_wp2
    (try simp only [Exit.inBlock, Exit.then])
    refine bodyPost_ret (results_m8_tmp rfl _ _ O m8z none 0 0 rfl HRE.out) rfl ?_
    exact ⟨E, (by rw [HE.out]; rfl), HFE.out, rfl⟩
  rw [if_neg c8] at HEX
  have h8 : 8 ≤ n := by omega
  have QF : Hid _ := fields8_ok a (some ⟨w1.heap.size, 0, none⟩) n cap bs _ HN.out (HSEG.out _ (bthen bel1 hb2)) H256.out HS8.out h8 h2 h3
  clear c8 hb2
  go_wp2_with fail
  refine Calls.mono QF.out ?_
  rintro e w2 ⟨g, c, rfl, hb3, hc1, hc2, hg0, f0, f1, f3⟩
  have HGO : Hid (g ≠ O) := by
    have h1 := HR1.out.lt
    have h2 : w1.heap.size < (w1.alloc (.cells #[.int .i64 8, .int .i64 8, .int .i64 16, .int .i64 32] 109)).heap.size := by simp
    show g ≠ O
    omega
  clear hg0
  have hb3' := bthen HB2.out hb3
  have bel2 := bthen bel1 hb3'
  have HR2 : Hid (MAt w2 O m8z none 0 0) := HR1.out.below hb3'
  have HPB2 : Hid (OwnB w2 w.heap.size (.slice pa pl pcp) pl pb) := own_below HPB.out hb3'
  have HF0 : Hid (w2.cell? ⟨g, 0, none⟩ = some (.int .i64 (bs.getD 0 0 : Nat))) := f0
  have HF1 : Hid (w2.cell? ⟨g, 1, none⟩ = some (.int .i64 (bs.getD 1 0 : Nat))) := f1
  have HF3 : Hid (w2.cell? ⟨g, 3, none⟩ = some (.int .i64 ((((bs.getD 4 0 * 256 + bs.getD 5 0) * 256 + bs.getD 6 0) * 256 + bs.getD 7 0 : Nat) : Int))) := f3
  have HCC : Hid (4 ≤ c ∧ c ≤ 9223372036854775807) := ⟨hc1, hc2⟩
  have p256 : ∀ z ∈ pb, z < 256 := by rw [HPBE.out]; exact psB_256 v V U x y n HPSZ.out (by omega) HX.out HY.out
  have QG : Hid _ := good_two w2 w2.heap.size pa a pl n pcp cap pb bs rfl HPL.out HN.out (HPB2.out.part p256) ⟨HSEG.out w2 bel2, H256.out, by show bs.length ≤ cap; rw [HN.out]; exact h2, h3⟩ (by omega)
  clear hb3 hb3' QF g0 g1 g2 g3 HR1 f0 f1 f3 hc1 hc2 p256 HB2 HS8 HPB
  go_wp2_with fail
  refine Calls.mono QG.out ?_
  rintro e w3 ⟨rfl, hb3⟩
  have bel3 := bthen bel2 hb3
  have HR3 : Hid (MAt w3 O m8z none 0 0) := HR2.out.below hb3
  have f0 : w3.cell? ⟨g, 0, none⟩ = some (.int .i64 (bs.getD 0 0 : Nat)) := (hb3.cell (p := ⟨g, 0, none⟩) (World.block_lt_of_cell? w2 _ HF0.out)).trans HF0.out
  have f1 : w3.cell? ⟨g, 1, none⟩ = some (.int .i64 (bs.getD 1 0 : Nat)) := (hb3.cell (p := ⟨g, 1, none⟩) (World.block_lt_of_cell? w2 _ HF1.out)).trans HF1.out
  have f3 : w3.cell? ⟨g, 3, none⟩ = some (.int .i64 ((((bs.getD 4 0 * 256 + bs.getD 5 0) * 256 + bs.getD 6 0) * 256 + bs.getD 7 0 : Nat) : Int)) := (hb3.cell (p := ⟨g, 3, none⟩) (World.block_lt_of_cell? w2 _ HF3.out)).trans HF3.out
  clear hb3 QG HR2 HF0 HF1 HF3 HPB2
  cases dg : decide (S.fold (S.wv false (pb ++ bs)) = 65535) with
  | false =>
    rw [if_neg (of_decide_eq_false dg)] at HEX
    have HE : Hid (E = 81) := HEX.out
    clear HEX f0 f1 f3 dg
    go_wp2_with (first | (refine wpList_build0 rfl rfl ?_) | (refine wpList_store_m8 (.tmp 8) _ rfl rfl O m8z m8z none none 0 0 0 0 rfl rfl HR3.out rfl ?_))
    intro wE hRE kE
    have HRE : Hid (MAt wE O m8z none 0 0) := hRE
    have HFE : Hid (Below w.heap.size w wE) := bel3.trans (kE.below (fun q e => by have e' : q = O := e; have := HO2.out; omega) bel3.size)
    clear hRE kE
    go_wp2
    (try simp only [Exit.inBlock, Exit.then])
    refine bodyPost_ret (results_m8_tmp rfl _ _ O m8z none 0 0 rfl HRE.out) rfl ?_
    exact ⟨E, (by rw [HE.out]; rfl), HFE.out, rfl⟩
  | true =>
  rw [if_pos (of_decide_eq_true dg)] at HEX
  have HE : Hid (E = 0) := HEX.out
  have q1 : IntKind.i64.wrap ((n : Int) - 8) = (n : Int) - 8 := by rw [IntKind.wrap_i64]; omega
  have QW : Hid _ := window_ok a n cap 8 (n - 8) w3 (by omega) h2 h3
  have e8 : ((n - 8 : Nat) : Int) = (n : Int) - 8 := by omega
  rw [e8] at QW
  clear HEX dg
  go_wp2_with fail
  refine Calls.mono QW.out ?_
  rintro e w4 ⟨rfl, hb4⟩
  have bel4 := bthen bel3 hb4
  have HR4 : Hid (MAt w4 O m8z none 0 0) := HR3.out.below hb4
  have HG0 : Hid (w4.cell? ⟨g, 0, none⟩ = some (.int .i64 (bs.getD 0 0 : Nat))) := (hb4.cell (p := ⟨g, 0, none⟩) (World.block_lt_of_cell? w3 _ f0)).trans f0
  have HG1 : Hid (w4.cell? ⟨g, 1, none⟩ = some (.int .i64 (bs.getD 1 0 : Nat))) := (hb4.cell (p := ⟨g, 1, none⟩) (World.block_lt_of_cell? w3 _ f1)).trans f1
  have HG3 : Hid (w4.cell? ⟨g, 3, none⟩ = some (.int .i64 ((((bs.getD 4 0 * 256 + bs.getD 5 0) * 256 + bs.getD 6 0) * 256 + bs.getD 7 0 : Nat) : Int))) := (hb4.cell (p := ⟨g, 3, none⟩) (World.block_lt_of_cell? w3 _ f3)).trans f3
  obtain ⟨b0, hb0⟩ : ∃ b, b = bs.getD 0 0 := ⟨_, rfl⟩
  obtain ⟨b1, hb1⟩ : ∃ b, b = bs.getD 1 0 := ⟨_, rfl⟩
  obtain ⟨br, hbr⟩ : ∃ b, b = ((bs.getD 4 0 * 256 + bs.getD 5 0) * 256 + bs.getD 6 0) * 256 + bs.getD 7 0 := ⟨_, rfl⟩
  rw [← hb0] at HG0
  rw [← hb1] at HG1
  rw [← hbr] at HG3
  have HM : Hid (pC 0 v a n bs = #[.int .i64 v, .int .i64 (b0 : Nat), .int .i64 (b1 : Nat), .int .i64 (br : Nat), .slice (cutA a 8 (n - 8)) (n - 8) (n - 8)]) := by
    show _ = _
    unfold pC
    rw [if_pos rfl, hb0, hb1, hbr]
    rfl
  clear hb4 QW HR3 f0 f1 f3 hb0 hb1 hbr
  go_upto_region 17 with fail
  refine MixH.start (fun A => Ch (fun q => q = O) w4 A) (by kernel_rfl) ?_
  obtain ⟨wA, hwA⟩ : ∃ wA, wA = w4.drew := ⟨_, rfl⟩
  have hS : Ch (fun q => q = O) w4 wA := by rw [hwA]; exact (Ch.refl _ _).drew
  have HRA : Hid (MAt wA O m8z none 0 0) := by rw [hwA]; exact HR4.out
  rw [← hwA]
  clear hwA HR4
  refine MixH.takes [true, true, true, false, true, true, false, true, true, false, true] 6 (by kernel_rfl) (by kernel_rfl) (by decide) (by kernel_rfl) hS (fun K hK => ?_)
  simp only [Mix.pick]
  repeat (go_big_quiet_step (fail))
  refine wpQuiet_nil (hK _ ?_)
  clear hK K
  refine MixH.take 5 3 _ (.int .i64 (b0 : Nat)) rfl (by kernel_rfl) (by kernel_rfl) (by kernel_rfl) (by kernel_rfl) (yields_int (.tmp 70) rfl ⟨g, 0, none⟩ _ rfl rfl (fun A hA => hA.cell HG0.out HGO.out)) hS (fun a' ha => ?_)
  simp only [Act.put, List.setIfInBounds_toArray, List.set_cons_succ, List.set_cons_zero] at ha
  subst ha
  refine MixH.take 4 6 _ (.int .i64 (b1 : Nat)) rfl (by kernel_rfl) (by kernel_rfl) (by kernel_rfl) (by kernel_rfl) (yields_int (.tmp 73) rfl ⟨g, 1, none⟩ _ rfl rfl (fun A hA => hA.cell HG1.out HGO.out)) hS (fun a' ha => ?_)
  simp only [Act.put, List.setIfInBounds_toArray, List.set_cons_succ, List.set_cons_zero] at ha
  subst ha
  refine MixH.take 3 9 _ (.int .i64 (br : Nat)) rfl (by kernel_rfl) (by kernel_rfl) (by kernel_rfl) (by kernel_rfl) (yields_int (.tmp 76) rfl ⟨g, 3, none⟩ _ rfl rfl (fun A hA => hA.cell HG3.out HGO.out)) hS (fun a' ha => ?_)
  simp only [Act.put, List.setIfInBounds_toArray, List.set_cons_succ, List.set_cons_zero] at ha
  subst ha
  refine MixH.takes [false, false, false, false, false, false, false, false, false, false, false, true] 2 (by kernel_rfl) (by kernel_rfl) (by decide) (by kernel_rfl) hS (fun K hK => ?_)
  simp only [Mix.pick]
  repeat (go_big_quiet_step (fail))
  refine wpQuiet_nil (hK _ ?_)
  clear hK K
  refine MixH.one [false, false, false, false, false, false, false, false, false, false, false, false, true] 1 12 _ rfl rfl (by kernel_rfl) (by kernel_rfl) (fun K hK => ?_)
  simp only [Mix.pick]
  go_wp2_with (first | (refine wpList_store_m8 (.tmp 8) (.tmp 79) rfl rfl O m8z ⟨v, (b0 : Nat), (b1 : Nat), (br : Nat), bs.drop 8⟩ none (cutA a 8 (n - 8)) 0 0 (n - 8) (n - 8) rfl rfl HRA.out rfl ?_))
  intro wE hRE kE
  have HRE : Hid (MAt wE O ⟨v, (b0 : Nat), (b1 : Nat), (br : Nat), bs.drop 8⟩ (cutA a 8 (n - 8)) (n - 8) (n - 8)) := hRE
  replace hS : Ch (fun q => q = O) w4 wE := hS.trans kE (fun x _ h => h)
  clear hRE kE
  go_wp2
  refine ⟨rfl, hK _ _ hS ?_⟩
  clear hK K
  refine MixH.takes [false, false, false, false, false, false, false, false, false, false, false, false, false, true] 0 (by kernel_rfl) (by kernel_rfl) (by decide) (by kernel_rfl) hS (fun K hK => ?_)
  simp only [Mix.pick]
  repeat (go_big_quiet_step (fail))
  refine wpQuiet_nil (hK _ ?_)
  clear hK K
  refine MixH.done (by kernel_rfl) ?_
  have HFE : Hid (Below w.heap.size w wE) := bel4.trans (hS.below (fun q e => by have e' : q = O := e; have := HO2.out; omega) bel4.size)
  clear hS
  go_wp2
  (try simp only [Exit.inBlock, Exit.then])
  refine bodyPost_ret (results_m8_tmp rfl _ _ O ⟨v, (b0 : Nat), (b1 : Nat), (br : Nat), bs.drop 8⟩ (cutA a 8 (n - 8)) (n - 8) (n - 8) rfl HRE.out) rfl ?_
  exact ⟨E, (by rw [HE.out, HM.out]; rfl), HFE.out, rfl⟩
end Go.Proofs.YtijipfciimcnpaaDoor
