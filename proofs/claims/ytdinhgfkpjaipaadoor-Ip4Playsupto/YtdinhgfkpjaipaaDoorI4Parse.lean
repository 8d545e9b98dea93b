/-
  Parse.
-/
import Derived.Test.YtdinhgfkpjaipaaDoorI4Fn6
import Derived.Test.YtdinhgfkpjaipaaDoorI4Opt2
import Derived.Test.YtdinhgfkpjaipaaDoorI4Put
namespace Go.Proofs.YtdinhgfkpjaipaaDoor
open Go.RowKit
open I4 (H4)

abbrev nilS : Value := .slice none 0 0
set_option maxRecDepth 100000 in
theorem built_h0 : Tryd.prog.built 28 [] = some (h4C h4z nilS nilS) := by kernel_rfl
theorem wpList_build0 {ops : Array Oper} {rest : List Oper} {o : Oper} {a : Act} {w : World} {Q : Exit → Act → World → Prop} (ho : o.op = .build 28 #[]) (hw : Region.wanted o (yielded ops a.tmps) = true)
    (h : wpList Tryd.prog ops Q rest (a.put o.dst (.agg (h4C h4z nilS nilS))) w) : wpList Tryd.prog ops Q (o :: rest) a w := by
  refine wpList_step fun K hK => ?_
  rw [if_pos hw]
  unfold Oper.wp execOp
  have := run_build (P := Tryd.prog) w 28 #[] _ built_h0
  simp only [ho, Sem.run_bind, List.map_toArray, List.map_nil, this, Result.andThen_ok]
  exact hK _ _ h
set_option maxRecDepth 100000 in
theorem wpList_alloc_h4 {ops : Array Oper} {rest : List Oper} {o : Oper} {a : Act} {w : World} {Q : Exit → Act → World → Prop} (ho : o.op = .alloc 28) (hw : Region.wanted o (yielded ops a.tmps) = true)
    (h : wpList Tryd.prog ops Q rest (a.put o.dst (.pointer (some ⟨w.heap.size, 0, none⟩))) (w.alloc (.cells (h4C h4z nilS nilS) 28))) : wpList Tryd.prog ops Q (o :: rest) a w := by
  refine wpList_step fun K hK => ?_
  rw [if_pos hw]
  have hrun : (execOp a.eval o).run Tryd.prog w = .ok (.value (.pointer (some ⟨w.heap.size, 0, none⟩))) (w.alloc (.cells (h4C h4z nilS nilS) 28)) := by
    obtain ⟨dst, op, type, pos, after, guard⟩ := o
    simp only at ho
    subst ho
    simp only [execOp]
    go_simp
    rfl
  unfold Oper.wp
  rw [hrun]
  exact hK _ _ h
theorem results_h4_tmp {fn : Func} {p u : Tmp} (h : fn.results = #[.cell p 28, .tmp u]) (tmps : Array Value) (w : World) (O : Nat) (r : H4) (ol dl : Value) (hp : tmps.getD p undef = .pointer (some ⟨O, 0, none⟩)) (hb : H4At w O r ol dl) :
    (results fn tmps).run Tryd.prog w = .ok (.tuple #[.agg (h4C r ol dl), tmps.getD u undef]) w := by
  rw [results_cell_tmp h tmps Tryd.prog w, hp]
  simp [asAddr, run_loadVar_row w O _ 28 (h4C r ol dl) _ _ hb Tryd.underlying28 rfl Tryd.sizeH4, Result.andThen]
theorem H4At.fz {w : World} {O : Nat} {h : H4} {ol dl : Value} (k : H4At w O h ol dl) (j : Nat) : w.frozen? ⟨O, j, none⟩ = false := by
  unfold H4At at k
  simp [World.frozen?, k]
theorem H4At.set41 {w : World} {O : Nat} {h : H4} {ol dl : Value} (k : H4At w O h ol dl) (v : Value) : H4At (w.setCell ⟨O, 41, none⟩ v) O h v dl ∧ Ch (fun q => q = O) w (w.setCell ⟨O, 41, none⟩ v) := by
  refine ⟨?_, (Ch.refl _ _).set _ _ rfl⟩
  unfold H4At at k ⊢
  rw [heap_setCell_same _ _ _ _ _ _ k]
  rfl
theorem H4At.set42 {w : World} {O : Nat} {h : H4} {ol dl : Value} (k : H4At w O h ol dl) (v : Value) : H4At (w.setCell ⟨O, 42, none⟩ v) O h ol v ∧ Ch (fun q => q = O) w (w.setCell ⟨O, 42, none⟩ v) := by
  refine ⟨?_, (Ch.refl _ _).set _ _ rfl⟩
  unfold H4At at k ⊢
  rw [heap_setCell_same _ _ _ _ _ _ k]
  rfl
/-- where the options, where the data lie -/
def optA (a : Option Addr) : Option Addr := a.map (fun x => x.add 20)
/-- what Parse leaves -/
def ParseRes (w : World) (a : Option Addr) (bs : List Nat) (C : Array Value) (er : Int) (w' : World) : Prop :=
  (er = (I4.pE bs : Nat) ∧ I4.pE bs ≠ 0 ∧ C = h4C h4z nilS nilS) ∨
  (er = 0 ∧ I4.Taken bs ∧ ∃ vo, C = h4C (I4.pH bs) vo (.slice (cutA a (I4.hdL bs) (I4.tlL bs - I4.hdL bs)) (I4.tlL bs - I4.hdL bs) (I4.tlL bs - I4.hdL bs)) ∧ w'.ownsRow w.heap.size 43 2 vo (I4.opsB bs).length (opsC (optA a) (I4.opsB bs)))
theorem fldAt_own {w : World} {B g c : Nat} {l : List Nat} (ho : w.ownsRow B 3 1 (.slice (some ⟨g, 0, none⟩) 14 c) 14 ((toI l).map (Value.int .i64))) (hl : l.length = 14) : FldAt w g l := by
  intro i hi
  have hi' : i < l.length := by omega
  rw [ho.cellAt i (by omega)]
  simp [toI, List.getD, hi']
theorem cut_at (gb ob hd t : Nat) (h : hd ≤ t) : (if t = hd then some (⟨gb, ob, none⟩ : Addr) else some ⟨gb, ob + hd, none⟩) = cutA (some ⟨gb, ob, none⟩) hd (t - hd) := by
  unfold cutA
  by_cases e : t = hd
  · rw [if_pos e, if_pos (by omega)]
  · rw [if_neg e, if_neg (by omega)]; simp [Addr.add]
theorem opsC_nil (a b : Option Addr) (os : List I4.Op4) (h : os = []) : opsC a os = opsC b os := by subst h; rfl
theorem scan_empty (b : List Nat) (os : List I4.Op4) (hb : b.length = 0) (h : I4.scan b 0 = some os) : os = [] := by
  rw [I4.scan, dif_neg (by omega)] at h
  exact (Option.some.inj h).symm
theorem pH_off (bs : List Nat) (h256 : ∀ x ∈ bs, x < 256) : 0 ≤ (I4.pH bs).off ∧ (I4.pH bs).off ≤ 65528 := by
  have h6 := I4.getD_lt bs h256 6
  have h7 := I4.getD_lt bs h256 7
  show 0 ≤ (((bs.getD 6 0 % 32 * 256 + bs.getD 7 0) * 8 : Nat) : Int) ∧ (((bs.getD 6 0 % 32 * 256 + bs.getD 7 0) * 8 : Nat) : Int) ≤ 65528
  omega
set_option maxHeartbeats 6400000 in
set_option maxRecDepth 100000 in
theorem parse_any (a : Option Addr) (cap n : Nat) (bs : List Nat) (w : World) (hn : bs.length = n) (hw : Wid w) (hb : Seg .u8 w a (toI bs)) (h256 : ∀ x ∈ bs, x < 256) (h2 : n ≤ cap) (h3 : cap ≤ 9223372036854775807) :
    Calls Tryd.prog 20 #[.slice a n cap] w fun e w' => ∃ C er, e = .returned (.tuple #[.agg C, .int .i64 er]) ∧ Below w.heap.size w w' ∧ ParseRes w a bs C er w' := by
  obtain ⟨W, hW⟩ : ∃ W, W = w.alloc (.cells (h4C h4z nilS nilS) 28) := ⟨_, rfl⟩
  obtain ⟨O, hO⟩ : ∃ O, O = w.heap.size := ⟨_, rfl⟩
  have bel : Below w.heap.size w W := by rw [hW]; exact (Below.refl _ _).alloc (Nat.le_refl _) _
  have HR : Hid (H4At W O h4z nilS nilS) := by rw [hW, hO]; exact h4At_new _ _ _ _
  have HO : Hid (w.heap.size = O) := hO.symm
  have HN : Hid (bs.length = n) := hn
  have H256 : Hid (∀ x ∈ bs, x < 256) := h256
  have HSEG : Hid (∀ A, Below w.heap.size w A → Seg .u8 A a (toI bs)) := fun A hA => hb.old hA
  have HWID : Hid (∀ A, Below w.heap.size w A → Wid A) := fun A hA => hw.old hA
  have HCAP : Hid (n ≤ cap ∧ cap ≤ 9223372036854775807) := ⟨h2, h3⟩
  have HW0 := hW.symm
  simp only [h4C, h4z, Int.natCast_zero] at HW0
  have HW : Hid _ := HW0
  clear hW hO hn hb hw h256 HW0
  by_cases c1 : 65535 < n
  · have c1' : (65535 : Int) < (n : Int) := by omega
    have HC1 : Hid _ := c1
    clear c1
    go_enter Tryd.func20, Tryd.ntmps20
    go_upto_region 1 with fail
    rw [HW.out, HO.out]
    have HE : Hid (I4.pE bs = 2) := by
      show I4.pE bs = 2
      unfold I4.pE
      rw [if_pos (by rw [HN.out]; exact HC1.out)]
    go_wp2_with (first | (refine wpList_build0 rfl rfl ?_) | (refine wpList_store_h4 (.tmp 2) _ rfl rfl O h4z h4z nilS nilS nilS nilS rfl rfl rfl rfl HR.out rfl ?_))
    intro wE hRE kE
    have HRE : Hid (H4At wE O h4z nilS nilS) := hRE
    have HFE : Hid (Below w.heap.size w wE) := (bel).trans (kE.below (fun q e => by have e' : q = O := e; have := HO.out; omega) (bel).size)
    clear hRE kE
    go_wp2
    (try simp only [Exit.inBlock, Exit.then])
    refine bodyPost_ret (results_h4_tmp rfl _ _ O h4z nilS nilS rfl HRE.out) rfl ?_
    exact ⟨_, _, rfl, HFE.out, .inl ⟨by rw [HE.out]; rfl, by rw [HE.out]; decide, rfl⟩⟩
  have c1' : ¬ (65535 : Int) < (n : Int) := by omega
  by_cases c2 : n < 20
  · have QT : Hid _ := takeApart_no a n cap W (HWID.out W bel) c2 h2 h3
    have HC2 : Hid _ := c2
    have HC1 : Hid _ := c1
    clear c1 c2 h2 h3
    go_enter Tryd.func20, Tryd.ntmps20
    go_upto_region 1 with fail
    rw [HW.out, HO.out]
    go_wp2_with fail
    refine Calls.mono QT.out ?_
    rintro e w1 ⟨rfl, hb1⟩
    have bel1 := bthen bel hb1
    have HR1 : Hid (H4At w1 O h4z nilS nilS) := H4At.below HR.out hb1
    clear hb1 QT
    have HE : Hid (I4.pE bs = 60) := by
      show I4.pE bs = 60
      unfold I4.pE
      rw [if_neg (by rw [HN.out]; exact HC1.out), if_pos (by rw [HN.out]; exact HC2.out)]
    go_wp2_with (first | (refine wpList_build0 rfl rfl ?_) | (refine wpList_store_h4 (.tmp 2) _ rfl rfl O h4z h4z nilS nilS nilS nilS rfl rfl rfl rfl HR1.out rfl ?_))
    intro wE hRE kE
    have HRE : Hid (H4At wE O h4z nilS nilS) := hRE
    have HFE : Hid (Below w.heap.size w wE) := (bel1).trans (kE.below (fun q e => by have e' : q = O := e; have := HO.out; omega) (bel1).size)
    clear hRE kE
    go_wp2
    (try simp only [Exit.inBlock, Exit.then])
    refine bodyPost_ret (results_h4_tmp rfl _ _ O h4z nilS nilS rfl HRE.out) rfl ?_
    exact ⟨_, _, rfl, HFE.out, .inl ⟨by rw [HE.out]; rfl, by rw [HE.out]; decide, rfl⟩⟩
  have QT : Hid _ := takeApart_ok a cap bs W (HWID.out W bel) (HSEG.out W bel) H256.out (by rw [HN.out]; omega) (by rw [HN.out]; exact h2) h3
  rw [HN.out] at QT
  have HC1 : Hid _ := c1
  have HC2 : Hid _ := c2
  have h20 : 20 ≤ n := by omega
  obtain ⟨gb, ob, hab⟩ : ∃ gb ob, a = some ⟨gb, ob, none⟩ := by
    rcases HSEG.out w (Below.refl _ _) with h0 | ⟨gb, ob, e, _⟩
    · have := congrArg List.length h0
      rw [toI_len, HN.out] at this
      simp at this
      omega
    · exact ⟨gb, ob, e⟩
  subst hab
  clear c1 c2 h2 h3
  go_enter Tryd.func20, Tryd.ntmps20
  go_upto_region 1 with fail
  rw [HW.out, HO.out]
  go_wp2_with fail
  refine Calls.mono QT.out ?_
  rintro e w1 ⟨v, rfl, ho1, hb1⟩
  have bel1 := bthen bel hb1
  have HR1 : Hid (H4At w1 O h4z nilS nilS) := H4At.below HR.out hb1
  obtain ⟨g, c, rfl, hcc⟩ := own_block ho1 (by decide)
  clear hcc
  have HF1 : Hid (FldAt w1 g (I4.flds (fun i => bs.getD i 0))) := fldAt_own ho1 rfl
  have f0 : w1.cell? ⟨g, 0, none⟩ = some (.int .i64 ((bs.getD 0 0 / 16 : Nat) : Int)) := HF1.out 0 (by omega)
  have f1 : w1.cell? ⟨g, 1, none⟩ = some (.int .i64 ((bs.getD 0 0 % 16 : Nat) : Int)) := HF1.out 1 (by omega)
  have f3 : w1.cell? ⟨g, 3, none⟩ = some (.int .i64 ((bs.getD 2 0 * 256 + bs.getD 3 0 : Nat) : Int)) := HF1.out 3 (by omega)
  obtain ⟨x0, hx0⟩ : ∃ x, x = bs.getD 0 0 / 16 := ⟨_, rfl⟩
  obtain ⟨x1, hx1⟩ : ∃ x, x = bs.getD 0 0 % 16 := ⟨_, rfl⟩
  obtain ⟨t, ht⟩ : ∃ x, x = bs.getD 2 0 * 256 + bs.getD 3 0 := ⟨_, rfl⟩
  have b1 : x1 < 16 := by omega
  have b3 : t < 65536 := by have := I4.getD_lt bs H256.out 2; have := I4.getD_lt bs H256.out 3; omega
  rw [← hx0] at f0
  rw [← hx1] at f1
  rw [← ht] at f3
  have HX0 : Hid (x0 = bs.getD 0 0 / 16) := hx0
  obtain ⟨hd, hhd⟩ : ∃ hd, hd = x1 * 4 := ⟨_, rfl⟩
  have HD : Hid (I4.hdL bs = hd) := by show I4.hdL bs = _; rw [hhd, hx1]; rfl
  have HT : Hid (I4.tlL bs = t) := by show I4.tlL bs = _; rw [ht]; rfl
  have m4 : IntKind.i64.wrap ((x1 : Int) * 4) = (hd : Int) := by rw [IntKind.wrap_i64]; omega
  have bh : hd ≤ 60 := by omega
  clear hb1 QT ho1 hx0 hx1 ht hhd b1
  go_wp2
  try go_region
  have bel2 : Below w.heap.size w w1.drew := bel1.drew
  have HR2 : Hid (H4At w1.drew O h4z nilS nilS) := HR1.out
  have HF2 : Hid (FldAt w1.drew g (I4.flds (fun i => bs.getD i 0))) := HF1.out
  have f0' : w1.drew.cell? ⟨g, 0, none⟩ = some (.int .i64 (x0 : Int)) := f0
  obtain ⟨w2, hw2⟩ : ∃ w2, w2 = w1.drew := ⟨_, rfl⟩
  rw [← hw2] at bel2 HR2 HF2 f0' ⊢
  clear hw2 f0 f1 f3 HF1 HR1 bel1 bel HR HW m4
  by_cases d1 : x0 = 4
  case neg =>
    have d1' : ((x0 : Int) != 4) = true := by rw [bne_iff_ne]; omega
    have HD1 : Hid (bs.getD 0 0 / 16 ≠ 4) := by rw [← HX0.out]; exact d1
    clear d1
    have HE : Hid (I4.pE bs = 61) := by
      show I4.pE bs = 61
      unfold I4.pE
      rw [if_neg (by rw [HN.out]; exact HC1.out), if_neg (by rw [HN.out]; exact HC2.out), if_pos HD1.out]
    go_wp2_with (first | (refine wpList_build0 rfl rfl ?_) | (refine wpList_store_h4 (.tmp 2) _ rfl rfl O h4z h4z nilS nilS nilS nilS rfl rfl rfl rfl HR2.out rfl ?_))
    intro wE hRE kE
    have HRE : Hid (H4At wE O h4z nilS nilS) := hRE
    have HFE : Hid (Below w.heap.size w wE) := (bel2).trans (kE.below (fun q e => by have e' : q = O := e; have := HO.out; omega) (bel2).size)
    clear hRE kE
    go_wp2
    (try simp only [Exit.inBlock, Exit.then])
    refine bodyPost_ret (results_h4_tmp rfl _ _ O h4z nilS nilS rfl HRE.out) rfl ?_
    exact ⟨_, _, rfl, HFE.out, .inl ⟨by rw [HE.out]; rfl, by rw [HE.out]; decide, rfl⟩⟩
  have d1' : ((x0 : Int) != 4) = false := by rw [d1]; rfl
  have HD1 : Hid (¬ bs.getD 0 0 / 16 ≠ 4) := by rw [← HX0.out]; exact fun h => h d1
  clear d1
  by_cases d2 : hd < 20
  · have HD2 : Hid (I4.hdL bs < 20 ∨ bs.length < I4.hdL bs) := by rw [HD.out]; exact .inl d2
    have d2' : (hd : Int) < 20 := by omega
    clear d2
    have HE : Hid (I4.pE bs = 62) := by
      show I4.pE bs = 62
      unfold I4.pE
      rw [if_neg (by rw [HN.out]; exact HC1.out), if_neg (by rw [HN.out]; exact HC2.out), if_neg HD1.out, if_pos HD2.out]
    go_wp2_with (first | (refine wpList_build0 rfl rfl ?_) | (refine wpList_store_h4 (.tmp 2) _ rfl rfl O h4z h4z nilS nilS nilS nilS rfl rfl rfl rfl HR2.out rfl ?_))
    intro wE hRE kE
    have HRE : Hid (H4At wE O h4z nilS nilS) := hRE
    have HFE : Hid (Below w.heap.size w wE) := (bel2).trans (kE.below (fun q e => by have e' : q = O := e; have := HO.out; omega) (bel2).size)
    clear hRE kE
    go_wp2
    (try simp only [Exit.inBlock, Exit.then])
    refine bodyPost_ret (results_h4_tmp rfl _ _ O h4z nilS nilS rfl HRE.out) rfl ?_
    exact ⟨_, _, rfl, HFE.out, .inl ⟨by rw [HE.out]; rfl, by rw [HE.out]; decide, rfl⟩⟩
  have d2' : ¬ (hd : Int) < 20 := by omega
  by_cases d3 : n < hd
  · have HD2 : Hid (I4.hdL bs < 20 ∨ bs.length < I4.hdL bs) := by rw [HD.out, HN.out]; exact .inr d3
    have d3' : (n : Int) < (hd : Int) := by omega
    clear d2 d3
    have HE : Hid (I4.pE bs = 62) := by
      show I4.pE bs = 62
      unfold I4.pE
      rw [if_neg (by rw [HN.out]; exact HC1.out), if_neg (by rw [HN.out]; exact HC2.out), if_neg HD1.out, if_pos HD2.out]
    go_wp2_with (first | (refine wpList_build0 rfl rfl ?_) | (refine wpList_store_h4 (.tmp 2) _ rfl rfl O h4z h4z nilS nilS nilS nilS rfl rfl rfl rfl HR2.out rfl ?_))
    intro wE hRE kE
    have HRE : Hid (H4At wE O h4z nilS nilS) := hRE
    have HFE : Hid (Below w.heap.size w wE) := (bel2).trans (kE.below (fun q e => by have e' : q = O := e; have := HO.out; omega) (bel2).size)
    clear hRE kE
    go_wp2
    (try simp only [Exit.inBlock, Exit.then])
    refine bodyPost_ret (results_h4_tmp rfl _ _ O h4z nilS nilS rfl HRE.out) rfl ?_
    exact ⟨_, _, rfl, HFE.out, .inl ⟨by rw [HE.out]; rfl, by rw [HE.out]; decide, rfl⟩⟩
  have d3' : ¬ (n : Int) < (hd : Int) := by omega
  have HD2 : Hid (¬ (I4.hdL bs < 20 ∨ bs.length < I4.hdL bs)) := by rw [HD.out, HN.out]; exact fun h => by omega
  by_cases d4 : t < hd
  · have HD3 : Hid (I4.tlL bs < I4.hdL bs ∨ bs.length < I4.tlL bs) := by rw [HD.out, HT.out]; exact .inl d4
    have d4' : (t : Int) < (hd : Int) := by omega
    clear d2 d3 d4
    have HE : Hid (I4.pE bs = 63) := by
      show I4.pE bs = 63
      unfold I4.pE
      rw [if_neg (by rw [HN.out]; exact HC1.out), if_neg (by rw [HN.out]; exact HC2.out), if_neg HD1.out, if_neg HD2.out, if_pos HD3.out]
    go_wp2_with (first | (refine wpList_build0 rfl rfl ?_) | (refine wpList_store_h4 (.tmp 2) _ rfl rfl O h4z h4z nilS nilS nilS nilS rfl rfl rfl rfl HR2.out rfl ?_))
    intro wE hRE kE
    have HRE : Hid (H4At wE O h4z nilS nilS) := hRE
    have HFE : Hid (Below w.heap.size w wE) := (bel2).trans (kE.below (fun q e => by have e' : q = O := e; have := HO.out; omega) (bel2).size)
    clear hRE kE
    go_wp2
    (try simp only [Exit.inBlock, Exit.then])
    refine bodyPost_ret (results_h4_tmp rfl _ _ O h4z nilS nilS rfl HRE.out) rfl ?_
    exact ⟨_, _, rfl, HFE.out, .inl ⟨by rw [HE.out]; rfl, by rw [HE.out]; decide, rfl⟩⟩
  have d4' : ¬ (t : Int) < (hd : Int) := by omega
  by_cases d5 : n < t
  · have HD3 : Hid (I4.tlL bs < I4.hdL bs ∨ bs.length < I4.tlL bs) := by rw [HT.out, HN.out]; exact .inr d5
    have d5' : (n : Int) < (t : Int) := by omega
    clear d2 d3 d4 d5
    have HE : Hid (I4.pE bs = 63) := by
      show I4.pE bs = 63
      unfold I4.pE
      rw [if_neg (by rw [HN.out]; exact HC1.out), if_neg (by rw [HN.out]; exact HC2.out), if_neg HD1.out, if_neg HD2.out, if_pos HD3.out]
    go_wp2_with (first | (refine wpList_build0 rfl rfl ?_) | (refine wpList_store_h4 (.tmp 2) _ rfl rfl O h4z h4z nilS nilS nilS nilS rfl rfl rfl rfl HR2.out rfl ?_))
    intro wE hRE kE
    have HRE : Hid (H4At wE O h4z nilS nilS) := hRE
    have HFE : Hid (Below w.heap.size w wE) := (bel2).trans (kE.below (fun q e => by have e' : q = O := e; have := HO.out; omega) (bel2).size)
    clear hRE kE
    go_wp2
    (try simp only [Exit.inBlock, Exit.then])
    refine bodyPost_ret (results_h4_tmp rfl _ _ O h4z nilS nilS rfl HRE.out) rfl ?_
    exact ⟨_, _, rfl, HFE.out, .inl ⟨by rw [HE.out]; rfl, by rw [HE.out]; decide, rfl⟩⟩
  have d5' : ¬ (n : Int) < (t : Int) := by omega
  have HD3 : Hid (¬ (I4.tlL bs < I4.hdL bs ∨ bs.length < I4.tlL bs)) := by rw [HD.out, HT.out, HN.out]; exact fun h => by omega
  have z1 : (0 : Int) ≤ (hd : Int) := by omega
  have z2 : (hd : Int) ≤ (cap : Int) := by have := HCAP.out; omega
  have z3 : ((hd : Int)).toNat = hd := by omega
  go_wp2_with fail
  have hps : Part.ok w2 ⟨some ⟨gb, ob, none⟩, cap, bs.take hd⟩ := by
    have h1 := (HSEG.out w2 bel2).part0 hd (by rw [toI_len, HN.out]; omega)
    rw [toI_take] at h1
    exact ⟨h1, fun x hx => H256.out x (List.mem_of_mem_take hx), by show (bs.take hd).length ≤ cap; rw [List.length_take, HN.out]; omega, HCAP.out.2⟩
  refine Calls.mono (good_one w2 _ (some ⟨gb, ob, none⟩) hd cap (bs.take hd) rfl (by rw [List.length_take, HN.out]; omega) hps (by omega)) ?_
  rintro e w3 ⟨rfl, hb3⟩
  have bel3 := bthen bel2 hb3
  have HR3 : Hid (H4At w3 O h4z nilS nilS) := H4At.below HR2.out hb3
  have HF3 : Hid (FldAt w3 g (I4.flds (fun i => bs.getD i 0))) := FldAt.old HF2.out hb3
  clear hps hb3 HR2 HF2 bel2 f0'
  cases dg : decide (S.fold (S.wv false (bs.take hd)) = 65535) with
  | false =>
    have HD4 : Hid (S.fold (S.wv false (bs.take (I4.hdL bs))) ≠ 65535) := by show _ ≠ _; rw [HD.out]; exact of_decide_eq_false dg
    clear d2 d3 d4 d5
    have HE : Hid (I4.pE bs = 64) := by
      show I4.pE bs = 64
      unfold I4.pE
      rw [if_neg (by rw [HN.out]; exact HC1.out), if_neg (by rw [HN.out]; exact HC2.out), if_neg HD1.out, if_neg HD2.out, if_neg HD3.out, if_pos HD4.out]
    go_wp2_with (first | (refine wpList_build0 rfl rfl ?_) | (refine wpList_store_h4 (.tmp 2) _ rfl rfl O h4z h4z nilS nilS nilS nilS rfl rfl rfl rfl HR3.out rfl ?_))
    intro wE hRE kE
    have HRE : Hid (H4At wE O h4z nilS nilS) := hRE
    have HFE : Hid (Below w.heap.size w wE) := (bel3).trans (kE.below (fun q e => by have e' : q = O := e; have := HO.out; omega) (bel3).size)
    clear hRE kE
    go_wp2
    (try simp only [Exit.inBlock, Exit.then])
    refine bodyPost_ret (results_h4_tmp rfl _ _ O h4z nilS nilS rfl HRE.out) rfl ?_
    exact ⟨_, _, rfl, HFE.out, .inl ⟨by rw [HE.out]; rfl, by rw [HE.out]; decide, rfl⟩⟩
  | true =>
  have HD4 : Hid (¬ S.fold (S.wv false (bs.take (I4.hdL bs))) ≠ 65535) := by rw [HD.out]; exact fun h => h (of_decide_eq_true dg)
  clear dg
  have QG : Hid _ := datagram_any g c bs w3 HF3.out H256.out
  go_wp2_with fail
  refine Calls.mono QG.out ?_
  rintro e w4 ⟨rfl, hb4⟩
  have bel4 := bthen bel3 hb4
  have HR4 : Hid (H4At w4 O h4z nilS nilS) := H4At.below HR3.out hb4
  clear QG hb4 HR3 HF3 bel3
  go_wp2_with (first | (refine wpList_alloc_h4 rfl rfl ?_) | (refine wpList_store_h4 (.tmp 8) (.tmp 64) rfl rfl w4.heap.size h4z (I4.pH bs) nilS nilS nilS nilS rfl rfl rfl rfl (h4At_new _ _ _ _) rfl ?_))
  intro w5 hP5 k5
  have bel5 : Below w.heap.size w w5 := bel4.trans ((((Below.refl _ _).alloc (Nat.le_refl _) _).trans (k5.below (fun q e => by have e' : q = w4.heap.size := e; omega) (by simp))).mono bel4.size)
  have HR5 : Hid (H4At w5 O h4z nilS nilS) := H4At.ch (H4At.below HR4.out ((Below.refl _ _).alloc (Nat.le_refl _) _)) k5 (fun e => by have e' : O = w4.heap.size := e; have := HR4.out.lt; omega)
  obtain ⟨D, hDD⟩ : ∃ D, D = w4.heap.size := ⟨_, rfl⟩
  rw [← hDD] at hP5 ⊢
  have HDO : Hid (O < D) := by rw [hDD]; exact HR4.out.lt
  have HP5 : Hid (H4At w5 D (I4.pH bs) nilS nilS) := hP5
  have HDL : Hid (D < w5.heap.size) := hP5.lt
  have HB5 : Hid (Below w.heap.size w w5) := bel5
  clear k5 bel4 HR4 hP5 hDD
  have y1 : (20 : Int) ≤ (hd : Int) := by omega
  have y2 : ((hd : Int) - 20).toNat = hd - 20 := by omega
  go_wp2_with fail
  case inr =>
    clear h
    have hoseg : Seg .u8 w5 (some ⟨gb, ob + 20, none⟩) (toI (I4.optB bs)) := by
      have h1 := (HSEG.out w5 bel5).part 20 (hd - 20) (by rw [toI_len, HN.out]; omega)
      rw [toI_drop, toI_take] at h1
      rw [I4.optB, HD.out]
      exact h1
    have QO : Hid _ := options_any (some ⟨gb, ob + 20, none⟩) (cap - 20) (hd - 20) (I4.optB bs) w5 (by rw [I4.optB, HD.out, List.length_take, List.length_drop, HN.out]; omega) hoseg (I4.optB_256 H256.out) (by have := HCAP.out; omega) (by have := HCAP.out; omega)
    clear hoseg
    refine Calls.mono QO.out ?_
    rintro e w6 ⟨vo, er, rfl, hb6, hres⟩
    have bel6 := bthen bel5 hb6
    have HR6 : Hid (H4At w6 O h4z nilS nilS) := H4At.below HR5.out hb6
    have hP6 : H4At w6 D (I4.pH bs) nilS nilS := H4At.below HP5.out hb6
    have g41 := hP6.c41
    have z41 := hP6.fz 41
    have s41 := (hP6.set41 vo)
    have HP7 : Hid (H4At (w6.setCell ⟨D, 41, none⟩ vo) D (I4.pH bs) vo nilS) := s41.1
    have bel7 : Below w.heap.size w (w6.setCell ⟨D, 41, none⟩ vo) := bel6.trans (s41.2.below (fun q e => by have e' : q = D := e; have := HDO.out; have := HO.out; omega) bel6.size)
    have HR7 : Hid (H4At (w6.setCell ⟨D, 41, none⟩ vo) O h4z nilS nilS) := H4At.ch HR6.out s41.2 (fun e => by have e' : O = D := e; have := HDO.out; omega)
    have HS41 : Hid (Ch (fun q => q = D) w6 (w6.setCell ⟨D, 41, none⟩ vo)) := s41.2
    have HB6 : Hid (Below w5.heap.size w5 w6) := hb6
    clear QO HR5 HP5 HR6 hb6 s41 bel6 hP6
    rcases hres with ⟨hl40, os, hsc, rfl, hown⟩ | ⟨hbad, rfl, rfl⟩
    case inr =>
      have HD5 : Hid (I4.scan (I4.optB bs) 0 = none) := by
        rcases hbad with h | h
        · have h40 : (I4.optB bs).length ≤ 40 := by rw [I4.optB, HD.out, List.length_take]; omega
          omega
        · exact h
      clear hbad
      have HE : Hid (I4.pE bs = 65) := by
        show I4.pE bs = 65
        unfold I4.pE
        rw [if_neg (by rw [HN.out]; exact HC1.out), if_neg (by rw [HN.out]; exact HC2.out), if_neg HD1.out, if_neg HD2.out, if_neg HD3.out, if_neg HD4.out, if_pos HD5.out]
      go_wp2_with (first | (refine wpList_build0 rfl rfl ?_) | (refine wpList_store_h4 (.tmp 2) _ rfl rfl O h4z h4z nilS nilS nilS nilS rfl rfl rfl rfl HR7.out rfl ?_))
      intro wE hRE kE
      have HRE : Hid (H4At wE O h4z nilS nilS) := hRE
      have HFE : Hid (Below w.heap.size w wE) := (bel7).trans (kE.below (fun q e => by have e' : q = O := e; have := HO.out; omega) (bel7).size)
      clear hRE kE
      go_wp2
      (try simp only [Exit.inBlock, Exit.then])
      refine bodyPost_ret (results_h4_tmp rfl _ _ O h4z nilS nilS rfl HRE.out) rfl ?_
      exact ⟨_, _, rfl, HFE.out, .inl ⟨by rw [HE.out]; rfl, by rw [HE.out]; decide, rfl⟩⟩
    obtain ⟨va, vc, rfl⟩ := owns_shape hown
    have HD5 : Hid (I4.scan (I4.optB bs) 0 = some os) := hsc
    have HOS : Hid (I4.opsB bs = os) := by show _ = _; rw [I4.opsB, hsc]; rfl
    obtain ⟨vo, hvo⟩ : ∃ vo, vo = Value.slice va os.length vc := ⟨_, rfl⟩
    obtain ⟨K, hK⟩ : ∃ K, K = os.length := ⟨_, rfl⟩
    rw [← hK] at hvo hown HP7 bel7 HR7 HS41 ⊢
    have HKK : Hid (K = os.length) := hK
    have HVO : Hid (vo = Value.slice va K vc) := hvo
    have HOWN6 : Hid (w6.ownsRow w5.heap.size 43 2 (.slice va K vc) K (opsC (some ⟨gb, ob + 20, none⟩) os)) := hown
    clear hsc hown hvo hK hl40
    obtain ⟨w7, hw7⟩ : ∃ w7, w7 = w6.setCell ⟨D, 41, none⟩ (.slice va K vc) := ⟨_, rfl⟩
    have E7 : Hid (w6.setCell ⟨D, 41, none⟩ (.slice va K vc) = w7) := hw7.symm
    rw [← hw7] at HP7 bel7 HR7 HS41
    clear hw7
    have g42 : w7.cell? ⟨D, 42, none⟩ = some nilS := HP7.out.c42
    have z42 : w7.frozen? ⟨D, 42, none⟩ = false := H4At.fz HP7.out 42
    have y3 : (hd : Int) ≤ (t : Int) := by omega
    have y4 : (t : Int) ≤ (cap : Int) := by have := HCAP.out; omega
    have y5 : ((t : Int) - (hd : Int)).toNat = t - hd := by omega
    have y6 : ((t : Int)).toNat = t := by omega
    go_upto_region 17 with fail
    rw [E7.out]
    clear E7
    go_upto_region 20 with fail
    rw [cut_at gb ob hd t (by omega)]
    obtain ⟨dA, hdA⟩ : ∃ dA, dA = cutA (some ⟨gb, ob, none⟩) hd (t - hd) := ⟨_, rfl⟩
    rw [← hdA]
    have HDA : Hid (dA = cutA (some ⟨gb, ob, none⟩) hd (t - hd)) := hdA
    have s42 := H4At.set42 HP7.out (.slice dA (t - hd) (t - hd))
    have bel8 : Below w.heap.size w (w7.setCell ⟨D, 42, none⟩ (.slice dA (t - hd) (t - hd))) := bel7.trans (s42.2.below (fun q e => by have e' : q = D := e; have := HDO.out; have := HO.out; omega) bel7.size)
    have HR8 : Hid (H4At (w7.setCell ⟨D, 42, none⟩ (.slice dA (t - hd) (t - hd))) O h4z nilS nilS) := H4At.ch HR7.out s42.2 (fun e => by have e' : O = D := e; have := HDO.out; omega)
    have HP8 : Hid (H4At (w7.setCell ⟨D, 42, none⟩ (.slice dA (t - hd) (t - hd))) D (I4.pH bs) (.slice va K vc) (.slice dA (t - hd) (t - hd))) := s42.1
    have HS42 : Hid (Ch (fun q => q = D) w7 (w7.setCell ⟨D, 42, none⟩ (.slice dA (t - hd) (t - hd)))) := s42.2
    obtain ⟨w8, hw8⟩ : ∃ w8, w8 = w7.setCell ⟨D, 42, none⟩ (.slice dA (t - hd) (t - hd)) := ⟨_, rfl⟩
    rw [← hw8] at bel8 HR8 HP8 HS42 ⊢
    clear hw8 s42 hdA HP7 HR7 bel7 g42 z42 g41 z41
    have QF : Hid _ := fragMay_any (I4.pH bs) (.slice va K vc) dA (t - hd) (t - hd) w8 (pH_off bs H256.out) (by omega)
    go_wp2_with (first | (refine wpList_load_h4 _ rfl D (I4.pH bs) (.slice va K vc) (.slice dA (t - hd) (t - hd)) rfl HP8.out rfl ?_))
    refine Calls.mono QF.out ?_
    rintro e w9 ⟨rfl, hb9⟩
    have bel9 := bthen bel8 hb9
    have HR9 : Hid (H4At w9 O h4z nilS nilS) := H4At.below HR8.out hb9
    have HP9 : Hid (H4At w9 D (I4.pH bs) (.slice va K vc) (.slice dA (t - hd) (t - hd))) := H4At.below HP8.out hb9
    have HB9 : Hid (Below w8.heap.size w8 w9) := hb9
    clear QF hb9 HR8 HP8 bel8
    cases dfr : I4.fragOk (I4.pH bs).mf (I4.pH bs).off (t - hd) with
    | false =>
      have HD6 : Hid ((!I4.fragOk (I4.pH bs).mf (I4.pH bs).off (I4.tlL bs - I4.hdL bs)) = true) := by show _ = _; rw [HT.out, HD.out, dfr]; rfl
      clear dfr
      have HE : Hid (I4.pE bs = 66) := by
        show I4.pE bs = 66
        unfold I4.pE
        rw [if_neg (by rw [HN.out]; exact HC1.out), if_neg (by rw [HN.out]; exact HC2.out), if_neg HD1.out, if_neg HD2.out, if_neg HD3.out, if_neg HD4.out, if_neg (by rw [HD5.out]; simp), if_pos HD6.out]
      go_wp2_with (first | (refine wpList_build0 rfl rfl ?_) | (refine wpList_store_h4 (.tmp 2) _ rfl rfl O h4z h4z nilS nilS nilS nilS rfl rfl rfl rfl HR9.out rfl ?_))
      intro wE hRE kE
      have HRE : Hid (H4At wE O h4z nilS nilS) := hRE
      have HFE : Hid (Below w.heap.size w wE) := (bel9).trans (kE.below (fun q e => by have e' : q = O := e; have := HO.out; omega) (bel9).size)
      clear hRE kE
      go_wp2
      (try simp only [Exit.inBlock, Exit.then])
      refine bodyPost_ret (results_h4_tmp rfl _ _ O h4z nilS nilS rfl HRE.out) rfl ?_
      exact ⟨_, _, rfl, HFE.out, .inl ⟨by rw [HE.out]; rfl, by rw [HE.out]; decide, rfl⟩⟩
    | true =>
      have HTK : Hid (I4.Taken bs) := by
        show I4.Taken bs
        rw [← I4.pE_zero]
        unfold I4.pE
        rw [if_neg (by rw [HN.out]; exact HC1.out), if_neg (by rw [HN.out]; exact HC2.out), if_neg HD1.out, if_neg HD2.out, if_neg HD3.out, if_neg HD4.out, if_neg (by rw [HD5.out]; simp), if_neg (by rw [HT.out, HD.out, dfr]; simp)]
      clear dfr
      go_wp2_with (first | (refine wpList_load_h4 _ rfl D (I4.pH bs) (.slice va K vc) (.slice dA (t - hd) (t - hd)) rfl HP9.out rfl ?_) | (refine wpList_store_h4 (.tmp 2) _ rfl rfl O h4z (I4.pH bs) nilS nilS (.slice va K vc) (.slice dA (t - hd) (t - hd)) rfl rfl rfl rfl HR9.out rfl ?_))
      intro wE hRE kE
      have HRE : Hid (H4At wE O (I4.pH bs) (.slice va K vc) (.slice dA (t - hd) (t - hd))) := hRE
      have HFE : Hid (Below w.heap.size w wE) := bel9.trans (kE.below (fun q e => by have e' : q = O := e; have := HO.out; omega) bel9.size)
      have HOWE : Hid (wE.ownsRow w.heap.size 43 2 (.slice va K vc) (I4.opsB bs).length (opsC (optA (some ⟨gb, ob, none⟩)) (I4.opsB bs))) := by
        have hnb : ∀ q, Value.ownBlock (.slice va K vc) = some q → w5.heap.size ≤ q ∧ q ≠ D ∧ q ≠ O := by
          intro q hq
          have h1 := (HOWN6.out.lt q hq).1
          have := HDL.out
          have := HDO.out
          omega
        have h7 := HS41.out.owns HOWN6.out (fun q hq => (hnb q hq).2.1)
        have h8 := HS42.out.owns h7 (fun q hq => (hnb q hq).2.1)
        have h9 := (Ch.ofBelow (S := fun _ => False) HB9.out).owns h8 (fun _ _ => id)
        have hE := kE.owns h9 (fun q hq => (hnb q hq).2.2)
        rw [HOS.out, ← HKK.out]
        have hoo : opsC (optA (some ⟨gb, ob, none⟩)) os = opsC (some ⟨gb, ob + 20, none⟩) os := by
          rfl
        rw [hoo]
        exact owns_mono hE (HB5.out.size)
      clear hRE kE
      go_wp2
      (try simp only [Exit.inBlock, Exit.then])
      refine bodyPost_ret (results_h4_tmp rfl _ _ O (I4.pH bs) (.slice va K vc) (.slice dA (t - hd) (t - hd)) rfl HRE.out) rfl ?_
      exact ⟨_, _, rfl, HFE.out, .inr ⟨rfl, HTK.out, .slice va K vc, by rw [HD.out, HT.out, ← HDA.out], HOWE.out⟩⟩
  case inl =>
    subst h
    have hoseg : Seg .u8 w5 (some ⟨gb, ob, none⟩) (toI (I4.optB bs)) := by
      have hl : (I4.optB bs).length = 0 := by rw [I4.optB, HD.out, List.length_take]; have := HCAP.out; omega
      exact .inl (by rw [List.eq_nil_of_length_eq_zero hl]; rfl)
    have QO : Hid _ := options_any (some ⟨gb, ob, none⟩) 0 (hd - 20) (I4.optB bs) w5 (by rw [I4.optB, HD.out, List.length_take, List.length_drop, HN.out]; omega) hoseg (I4.optB_256 H256.out) (by have := HCAP.out; omega) (by have := HCAP.out; omega)
    clear hoseg
    refine Calls.mono QO.out ?_
    rintro e w6 ⟨vo, er, rfl, hb6, hres⟩
    have bel6 := bthen bel5 hb6
    have HR6 : Hid (H4At w6 O h4z nilS nilS) := H4At.below HR5.out hb6
    have hP6 : H4At w6 D (I4.pH bs) nilS nilS := H4At.below HP5.out hb6
    have g41 := hP6.c41
    have z41 := hP6.fz 41
    have s41 := (hP6.set41 vo)
    have HP7 : Hid (H4At (w6.setCell ⟨D, 41, none⟩ vo) D (I4.pH bs) vo nilS) := s41.1
    have bel7 : Below w.heap.size w (w6.setCell ⟨D, 41, none⟩ vo) := bel6.trans (s41.2.below (fun q e => by have e' : q = D := e; have := HDO.out; have := HO.out; omega) bel6.size)
    have HR7 : Hid (H4At (w6.setCell ⟨D, 41, none⟩ vo) O h4z nilS nilS) := H4At.ch HR6.out s41.2 (fun e => by have e' : O = D := e; have := HDO.out; omega)
    have HS41 : Hid (Ch (fun q => q = D) w6 (w6.setCell ⟨D, 41, none⟩ vo)) := s41.2
    have HB6 : Hid (Below w5.heap.size w5 w6) := hb6
    clear QO HR5 HP5 HR6 hb6 s41 bel6 hP6
    rcases hres with ⟨hl40, os, hsc, rfl, hown⟩ | ⟨hbad, rfl, rfl⟩
    case inr =>
      have HD5 : Hid (I4.scan (I4.optB bs) 0 = none) := by
        rcases hbad with h | h
        · have h40 : (I4.optB bs).length ≤ 40 := by rw [I4.optB, HD.out, List.length_take]; omega
          omega
        · exact h
      clear hbad
      have HE : Hid (I4.pE bs = 65) := by
        show I4.pE bs = 65
        unfold I4.pE
        rw [if_neg (by rw [HN.out]; exact HC1.out), if_neg (by rw [HN.out]; exact HC2.out), if_neg HD1.out, if_neg HD2.out, if_neg HD3.out, if_neg HD4.out, if_pos HD5.out]
      go_wp2_with (first | (refine wpList_build0 rfl rfl ?_) | (refine wpList_store_h4 (.tmp 2) _ rfl rfl O h4z h4z nilS nilS nilS nilS rfl rfl rfl rfl HR7.out rfl ?_))
      intro wE hRE kE
      have HRE : Hid (H4At wE O h4z nilS nilS) := hRE
      have HFE : Hid (Below w.heap.size w wE) := (bel7).trans (kE.below (fun q e => by have e' : q = O := e; have := HO.out; omega) (bel7).size)
      clear hRE kE
      go_wp2
      (try simp only [Exit.inBlock, Exit.then])
      refine bodyPost_ret (results_h4_tmp rfl _ _ O h4z nilS nilS rfl HRE.out) rfl ?_
      exact ⟨_, _, rfl, HFE.out, .inl ⟨by rw [HE.out]; rfl, by rw [HE.out]; decide, rfl⟩⟩
    obtain ⟨va, vc, rfl⟩ := owns_shape hown
    have HD5 : Hid (I4.scan (I4.optB bs) 0 = some os) := hsc
    have HOS : Hid (I4.opsB bs = os) := by show _ = _; rw [I4.opsB, hsc]; rfl
    obtain ⟨vo, hvo⟩ : ∃ vo, vo = Value.slice va os.length vc := ⟨_, rfl⟩
    obtain ⟨K, hK⟩ : ∃ K, K = os.length := ⟨_, rfl⟩
    rw [← hK] at hvo hown HP7 bel7 HR7 HS41 ⊢
    have HKK : Hid (K = os.length) := hK
    have HVO : Hid (vo = Value.slice va K vc) := hvo
    have HOWN6 : Hid (w6.ownsRow w5.heap.size 43 2 (.slice va K vc) K (opsC (some ⟨gb, ob, none⟩) os)) := hown
    clear hsc hown hvo hK hl40
    obtain ⟨w7, hw7⟩ : ∃ w7, w7 = w6.setCell ⟨D, 41, none⟩ (.slice va K vc) := ⟨_, rfl⟩
    have E7 : Hid (w6.setCell ⟨D, 41, none⟩ (.slice va K vc) = w7) := hw7.symm
    rw [← hw7] at HP7 bel7 HR7 HS41
    clear hw7
    have g42 : w7.cell? ⟨D, 42, none⟩ = some nilS := HP7.out.c42
    have z42 : w7.frozen? ⟨D, 42, none⟩ = false := H4At.fz HP7.out 42
    have y3 : (hd : Int) ≤ (t : Int) := by omega
    have y4 : (t : Int) ≤ 20 := by have := HCAP.out; omega
    have y5 : ((t : Int) - (hd : Int)).toNat = t - hd := by omega
    have y6 : ((t : Int)).toNat = t := by omega
    go_upto_region 17 with fail
    rw [E7.out]
    clear E7
    go_upto_region 20 with fail
    rw [cut_at gb ob hd t (by omega)]
    obtain ⟨dA, hdA⟩ : ∃ dA, dA = cutA (some ⟨gb, ob, none⟩) hd (t - hd) := ⟨_, rfl⟩
    rw [← hdA]
    have HDA : Hid (dA = cutA (some ⟨gb, ob, none⟩) hd (t - hd)) := hdA
    have s42 := H4At.set42 HP7.out (.slice dA (t - hd) (t - hd))
    have bel8 : Below w.heap.size w (w7.setCell ⟨D, 42, none⟩ (.slice dA (t - hd) (t - hd))) := bel7.trans (s42.2.below (fun q e => by have e' : q = D := e; have := HDO.out; have := HO.out; omega) bel7.size)
    have HR8 : Hid (H4At (w7.setCell ⟨D, 42, none⟩ (.slice dA (t - hd) (t - hd))) O h4z nilS nilS) := H4At.ch HR7.out s42.2 (fun e => by have e' : O = D := e; have := HDO.out; omega)
    have HP8 : Hid (H4At (w7.setCell ⟨D, 42, none⟩ (.slice dA (t - hd) (t - hd))) D (I4.pH bs) (.slice va K vc) (.slice dA (t - hd) (t - hd))) := s42.1
    have HS42 : Hid (Ch (fun q => q = D) w7 (w7.setCell ⟨D, 42, none⟩ (.slice dA (t - hd) (t - hd)))) := s42.2
    obtain ⟨w8, hw8⟩ : ∃ w8, w8 = w7.setCell ⟨D, 42, none⟩ (.slice dA (t - hd) (t - hd)) := ⟨_, rfl⟩
    rw [← hw8] at bel8 HR8 HP8 HS42 ⊢
    clear hw8 s42 hdA HP7 HR7 bel7 g42 z42 g41 z41
    have QF : Hid _ := fragMay_any (I4.pH bs) (.slice va K vc) dA (t - hd) (t - hd) w8 (pH_off bs H256.out) (by omega)
    go_wp2_with (first | (refine wpList_load_h4 _ rfl D (I4.pH bs) (.slice va K vc) (.slice dA (t - hd) (t - hd)) rfl HP8.out rfl ?_))
    refine Calls.mono QF.out ?_
    rintro e w9 ⟨rfl, hb9⟩
    have bel9 := bthen bel8 hb9
    have HR9 : Hid (H4At w9 O h4z nilS nilS) := H4At.below HR8.out hb9
    have HP9 : Hid (H4At w9 D (I4.pH bs) (.slice va K vc) (.slice dA (t - hd) (t - hd))) := H4At.below HP8.out hb9
    have HB9 : Hid (Below w8.heap.size w8 w9) := hb9
    clear QF hb9 HR8 HP8 bel8
    cases dfr : I4.fragOk (I4.pH bs).mf (I4.pH bs).off (t - hd) with
    | false =>
      have HD6 : Hid ((!I4.fragOk (I4.pH bs).mf (I4.pH bs).off (I4.tlL bs - I4.hdL bs)) = true) := by show _ = _; rw [HT.out, HD.out, dfr]; rfl
      clear dfr
      have HE : Hid (I4.pE bs = 66) := by
        show I4.pE bs = 66
        unfold I4.pE
        rw [if_neg (by rw [HN.out]; exact HC1.out), if_neg (by rw [HN.out]; exact HC2.out), if_neg HD1.out, if_neg HD2.out, if_neg HD3.out, if_neg HD4.out, if_neg (by rw [HD5.out]; simp), if_pos HD6.out]
      go_wp2_with (first | (refine wpList_build0 rfl rfl ?_) | (refine wpList_store_h4 (.tmp 2) _ rfl rfl O h4z h4z nilS nilS nilS nilS rfl rfl rfl rfl HR9.out rfl ?_))
      intro wE hRE kE
      have HRE : Hid (H4At wE O h4z nilS nilS) := hRE
      have HFE : Hid (Below w.heap.size w wE) := (bel9).trans (kE.below (fun q e => by have e' : q = O := e; have := HO.out; omega) (bel9).size)
      clear hRE kE
      go_wp2
      (try simp only [Exit.inBlock, Exit.then])
      refine bodyPost_ret (results_h4_tmp rfl _ _ O h4z nilS nilS rfl HRE.out) rfl ?_
      exact ⟨_, _, rfl, HFE.out, .inl ⟨by rw [HE.out]; rfl, by rw [HE.out]; decide, rfl⟩⟩
    | true =>
      have HTK : Hid (I4.Taken bs) := by
        show I4.Taken bs
        rw [← I4.pE_zero]
        unfold I4.pE
        rw [if_neg (by rw [HN.out]; exact HC1.out), if_neg (by rw [HN.out]; exact HC2.out), if_neg HD1.out, if_neg HD2.out, if_neg HD3.out, if_neg HD4.out, if_neg (by rw [HD5.out]; simp), if_neg (by rw [HT.out, HD.out, dfr]; simp)]
      clear dfr
      go_wp2_with (first | (refine wpList_load_h4 _ rfl D (I4.pH bs) (.slice va K vc) (.slice dA (t - hd) (t - hd)) rfl HP9.out rfl ?_) | (refine wpList_store_h4 (.tmp 2) _ rfl rfl O h4z (I4.pH bs) nilS nilS (.slice va K vc) (.slice dA (t - hd) (t - hd)) rfl rfl rfl rfl HR9.out rfl ?_))
      intro wE hRE kE
      have HRE : Hid (H4At wE O (I4.pH bs) (.slice va K vc) (.slice dA (t - hd) (t - hd))) := hRE
      have HFE : Hid (Below w.heap.size w wE) := bel9.trans (kE.below (fun q e => by have e' : q = O := e; have := HO.out; omega) bel9.size)
      have HOWE : Hid (wE.ownsRow w.heap.size 43 2 (.slice va K vc) (I4.opsB bs).length (opsC (optA (some ⟨gb, ob, none⟩)) (I4.opsB bs))) := by
        have hnb : ∀ q, Value.ownBlock (.slice va K vc) = some q → w5.heap.size ≤ q ∧ q ≠ D ∧ q ≠ O := by
          intro q hq
          have h1 := (HOWN6.out.lt q hq).1
          have := HDL.out
          have := HDO.out
          omega
        have h7 := HS41.out.owns HOWN6.out (fun q hq => (hnb q hq).2.1)
        have h8 := HS42.out.owns h7 (fun q hq => (hnb q hq).2.1)
        have h9 := (Ch.ofBelow (S := fun _ => False) HB9.out).owns h8 (fun _ _ => id)
        have hE := kE.owns h9 (fun q hq => (hnb q hq).2.2)
        rw [HOS.out, ← HKK.out]
        have hoo : opsC (optA (some ⟨gb, ob, none⟩)) os = opsC (some ⟨gb, ob, none⟩) os := by
          exact opsC_nil _ _ _ (scan_empty _ _ (by rw [I4.optB, HD.out, List.length_take]; have := HCAP.out; omega) HD5.out)
        rw [hoo]
        exact owns_mono hE (HB5.out.size)
      clear hRE kE
      go_wp2
      (try simp only [Exit.inBlock, Exit.then])
      refine bodyPost_ret (results_h4_tmp rfl _ _ O (I4.pH bs) (.slice va K vc) (.slice dA (t - hd) (t - hd)) rfl HRE.out) rfl ?_
      exact ⟨_, _, rfl, HFE.out, .inr ⟨rfl, HTK.out, .slice va K vc, by rw [HD.out, HT.out, ← HDA.out], HOWE.out⟩⟩
end Go.Proofs.YtdinhgfkpjaipaaDoor
