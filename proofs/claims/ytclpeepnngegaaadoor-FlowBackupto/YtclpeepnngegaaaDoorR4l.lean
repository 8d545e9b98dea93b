/-
  weirref4: ParseIP of a right text (of version 6: without a dot).
-/
import Derived.Test.YtclpeepnngegaaaDoorR4k
import Derived.Test.YtclpeepnngegaaaDoorR4e
namespace Go.Proofs.YtclpeepnngegaaaDoor
open Go.RowKit Go.Maps

theorem run_ip6 (x : Nat → Nat) (w : World) : (Instr.build 24 #[(0, .int .i64 6), (1, .agg (arCells x))]).run Tryd.prog w = .ok (.agg (ipCells 6 x)) w := by kernel_rfl
theorem wpList_ip6 {ops : Array Oper} {rest : List Oper} {o : Oper} {a_ : Act} {w : World} {Q : Exit → Act → World → Prop} (y0 y1 : Operand) (ho : o.op = .build 24 #[(0, y0), (1, y1)]) (x : Nat → Nat) (h0 : a_.eval y0 = .int .i64 6) (h1 : a_.eval y1 = .agg (arCells x)) (hw : Region.wanted o (yielded ops a_.tmps) = true)
    (h : wpList Tryd.prog ops Q rest (a_.put o.dst (.agg (ipCells 6 x))) w) : wpList Tryd.prog ops Q (o :: rest) a_ w := by
  refine wpList_step fun K hK => ?_
  rw [if_pos hw]
  have hrun : (execOp a_.eval o).run Tryd.prog w = .ok (.value (.agg (ipCells 6 x))) w := by
    obtain ⟨dst, op, type, pos, after, guard⟩ := o
    simp only at ho
    subst ho
    simp only [execOp, Sem.run_bind, List.map_toArray, List.map_cons, List.map_nil, h0, h1, run_ip6 x w, Result.andThen_ok]
    rfl
  unfold Oper.wp
  rw [hrun]
  exact hK _ _ h
theorem run_ip4z  (w : World) : (Instr.build 24 #[(0, .int .i64 4)]).run Tryd.prog w = .ok (.agg (ipCells 4 (fun _ => 0))) w := by kernel_rfl
theorem wpList_ip4z {ops : Array Oper} {rest : List Oper} {o : Oper} {a_ : Act} {w : World} {Q : Exit → Act → World → Prop} (y0 : Operand) (ho : o.op = .build 24 #[(0, y0)])  (h0 : a_.eval y0 = .int .i64 4) (hw : Region.wanted o (yielded ops a_.tmps) = true)
    (h : wpList Tryd.prog ops Q rest (a_.put o.dst (.agg (ipCells 4 (fun _ => 0)))) w) : wpList Tryd.prog ops Q (o :: rest) a_ w := by
  refine wpList_step fun K hK => ?_
  rw [if_pos hw]
  have hrun : (execOp a_.eval o).run Tryd.prog w = .ok (.value (.agg (ipCells 4 (fun _ => 0)))) w := by
    obtain ⟨dst, op, type, pos, after, guard⟩ := o
    simp only at ho
    subst ho
    simp only [execOp, Sem.run_bind, List.map_toArray, List.map_cons, List.map_nil, h0, run_ip4z  w, Result.andThen_ok]
    rfl
  unfold Oper.wp
  rw [hrun]
  exact hK _ _ h
theorem results_ip3 {fn : Func} {p u v : Tmp} (h : fn.results = #[.cell p 24, .tmp u, .tmp v]) (tmps : Array Value) (w : World) (O : Nat) (V : Int) (x : Nat → Nat) (hp : tmps.getD p undef = .pointer (some ⟨O, 0, none⟩)) (hb : IprAt w O V x) :
    (results fn tmps).run Tryd.prog w = .ok (.tuple #[.agg (ipCells V x), tmps.getD u undef, tmps.getD v undef]) w := by
  have hp' : tmps[p]?.getD undef = .pointer (some ⟨O, 0, none⟩) := by simpa using hp
  simp [results, h, hp', asAddr, run_loadVar_row w O _ 24 (ipCells V x) _ _ hb Tryd.underlying24 rfl Tryd.size_ipr]
theorem ip_set (V : Int) (x : Nat → Nat) (k v : Nat) (h : k < 16) : (ipCells V x).setIfInBounds (1 + k) (.int .u8 (v : Nat)) = ipCells V (up1 x k v) := by
  have : k = 0 ∨ k = 1 ∨ k = 2 ∨ k = 3 ∨ k = 4 ∨ k = 5 ∨ k = 6 ∨ k = 7 ∨ k = 8 ∨ k = 9 ∨ k = 10 ∨ k = 11 ∨ k = 12 ∨ k = 13 ∨ k = 14 ∨ k = 15 := by omega
  rcases this with rfl | rfl | rfl | rfl | rfl | rfl | rfl | rfl | rfl | rfl | rfl | rfl | rfl | rfl | rfl | rfl <;> simp [ipCells, up1]
theorem IprAt.put {w : World} {O : Nat} {V : Int} {x : Nat → Nat} (h : IprAt w O V x) (k v : Nat) (hk : k < 16) : IprAt (w.setCell ⟨O, 1 + k, none⟩ (.int .u8 (v : Nat))) O V (up1 x k v) := by
  unfold IprAt at h ⊢
  rw [heap_setCell_same w O (1 + k) _ _ _ h, ip_set V x k v hk]
set_option maxHeartbeats 1600000 in
set_option maxRecDepth 100000 in
theorem parse6_right (s : ByteArray) (w : World) (hs : s.size ≤ 45) (hc : hsB s 58 = true) (hnd : ∀ i, sB s i ≠ 46) (hok : (sxL s).er = 0) (h8 : (decide ((sxL s).gap < 0) && decide ((sxL s).g.length < 8)) = false) : Calls Tryd.prog 74 #[.string s] w fun r w' => r = .returned (.tuple #[.agg (ipCells 6 (fil (sxL s) (sxL s).g.length)), .int .i64 0, .int .i64 0]) ∧ Below w.heap.size w w' := by
  have HS : Hid (s.size ≤ 45) := hs
  have HP : Hid (hsB s 58 = true ∧ (∀ i, sB s i ≠ 46) ∧ (sxL s).er = 0 ∧ (decide ((sxL s).gap < 0) && decide ((sxL s).g.length < 8)) = false) := ⟨hc, hnd, hok, h8⟩
  have q1 : decide ((45 : Int) < (s.size : Int)) = false := decide_eq_false (by omega)
  clear hs hc hnd hok h8
  obtain ⟨x, hx⟩ : ∃ x, fil (sxL s) (sxL s).g.length = x := ⟨_, rfl⟩
  have HX : Hid (fil (sxL s) (sxL s).g.length = x) := hx
  rw [hx]
  clear hx
  obtain ⟨W, hY⟩ : ∃ Y, Y = w.alloc (.cells (ipCells 0 (fun _ => 0)) 24) := ⟨_, rfl⟩
  have bY : Below w.heap.size w W := by rw [hY]; exact (Below.refl _ _).alloc (Nat.le_refl _) _
  obtain ⟨I, hO⟩ : ∃ O, O = w.heap.size := ⟨_, rfl⟩
  have HNI : Hid (IprAt W I 0 (fun _ => 0)) := by show IprAt W I 0 (fun _ => 0); rw [hY, hO]; exact ipr_new w 0 (fun _ => 0)
  have HLI : Hid (Below w.heap.size w W) := bY
  have HEI : Hid (w.alloc (.cells (ipCells 0 (fun _ => 0)) 24) = W) := hY.symm
  have HOI : Hid (w.heap.size = I) := hO.symm
  clear hY bY hO
  go_enter Tryd.func74, Tryd.ntmps74
  go_wp2_with (first | (refine wpList_alloc_ipr rfl rfl ?_; rw [HEI.out, HOI.out]))
  refine (hasT_any s 58 W (by have := HS.out; omega)).mono ?_
  rintro e1 wz ⟨rfl, rfl⟩
  rw [HP.out.1]
  go_wp2_with fail
  refine (sixes_plain s W (by have := HS.out; omega) HP.out.2.1 HP.out.2.2.1 HP.out.2.2.2).mono ?_
  rintro e1 w1 ⟨rfl, b1⟩
  rw [HX.out]
  have H1 : Hid (IprAt w1 I 0 (fun _ => 0) ∧ Below w.heap.size w w1) := ⟨HNI.out.below b1, bthen HLI.out b1⟩
  clear b1
  obtain ⟨w2, hw2⟩ : ∃ w2, w2 = w1.alloc (.cells (arCells fun _ => 0) 22) := ⟨_, rfl⟩
  have l2 : Below w1.heap.size w1 w2 := by rw [hw2]; exact (Below.refl _ _).alloc (Nat.le_refl _) _
  have a2 := arAt_new w1 (arCells fun _ => 0)
  rw [← hw2] at a2
  obtain ⟨D, hD⟩ : ∃ D, w1.heap.size = D := ⟨_, rfl⟩
  rw [hD] at a2
  have HOD : Hid (w1.heap.size = D) := hD
  have HW2 : Hid (w1.alloc (.cells #[.int .u8 0, .int .u8 0, .int .u8 0, .int .u8 0, .int .u8 0, .int .u8 0, .int .u8 0, .int .u8 0, .int .u8 0, .int .u8 0, .int .u8 0, .int .u8 0, .int .u8 0, .int .u8 0, .int .u8 0, .int .u8 0] 22) = w2) := hw2.symm
  have H2 : Hid (IprAt w2 I 0 (fun _ => 0) ∧ ArAt w2 D (arCells fun _ => 0) ∧ Below w.heap.size w w2 ∧ I < D) := ⟨H1.out.1.below l2, a2, bthen H1.out.2 l2, by rw [← hD]; exact H1.out.1.lt⟩
  clear hw2 l2 a2 hD
  go_wp2_with (first | (rw [HOD.out, HW2.out]) | (refine wpList_store_ar (.tmp 5) (.tmp 22) rfl rfl D (fun _ => 0) x rfl rfl H2.out.2.1 rfl ?_))
  intro w3 h3 k3
  have H3 : Hid (IprAt w3 I 0 (fun _ => 0) ∧ ArAt w3 D (arCells x) ∧ Below w.heap.size w w3) := ⟨H2.out.1.ch k3 (by have := H2.out.2.2.2; omega), h3, H2.out.2.2.1.trans (k3.below (fun q hq => by have h1 := H2.out.2.2.2; have h2 := HOI.out; omega) H2.out.2.2.1.size)⟩
  clear h3 k3
  go_wp2_with (first | (refine wpList_load_ar (.tmp 5) rfl D 0 x rfl H3.out.2.1.range rfl ?_) | (refine wpList_ip6 (.const (.int .i64 6)) (.tmp 30) rfl x rfl rfl rfl ?_) | (refine wpList_store_ipr (.tmp 2) (.tmp 31) rfl rfl I 0 (fun _ => 0) 6 x rfl rfl H3.out.1 rfl ?_))
  intro w4 h4 k4
  have H4 : Hid (IprAt w4 I 6 x ∧ Below w.heap.size w w4) := ⟨h4, H3.out.2.2.trans (k4.below (fun q hq => by have h2 := HOI.out; omega) H3.out.2.2.size)⟩
  clear h4 k4
  go_wp2_with fail
  refine bodyPost_ret (results_ip3 rfl _ _ I _ _ rfl H4.out.1) rfl ?_
  exact ⟨rfl, H4.out.2⟩
/-- the first i bytes -/
def pre (l : List Nat) (i : Nat) : Nat → Nat := fun j => if j < i then l.getD j 0 else 0
theorem pre_succ (l : List Nat) (i : Nat) : up1 (pre l i) i (l.getD i 0) = pre l (i + 1) := by
  funext j
  unfold up1 pre
  by_cases h : j = i
  · subst h; simp
  · rw [if_neg h]
    by_cases h2 : j < i
    · rw [if_pos h2, if_pos (by omega)]
    · rw [if_neg h2, if_neg (by omega)]
set_option maxHeartbeats 1600000 in
set_option maxRecDepth 100000 in
theorem parse4_right (s : ByteArray) (l : List Nat) (w : World) (hs : s.size ≤ 45) (hc : hsB s 58 = false) (hl : l.length = 4) (hd : dtd s 4 0 [] = .inl l) : Calls Tryd.prog 74 #[.string s] w fun r w' => r = .returned (.tuple #[.agg (ipCells 4 (pre l 4)), .int .i64 0, .int .i64 0]) ∧ Below w.heap.size w w' := by
  have HS : Hid (s.size ≤ 45) := hs
  have HP : Hid (hsB s 58 = false ∧ dtd s 4 0 [] = .inl l ∧ l.length = 4) := ⟨hc, hd, hl⟩
  have q1 : decide ((45 : Int) < (s.size : Int)) = false := decide_eq_false (by omega)
  clear hs hc hd hl
  obtain ⟨W, hY⟩ : ∃ Y, Y = w.alloc (.cells (ipCells 0 (fun _ => 0)) 24) := ⟨_, rfl⟩
  have bY : Below w.heap.size w W := by rw [hY]; exact (Below.refl _ _).alloc (Nat.le_refl _) _
  obtain ⟨I, hO⟩ : ∃ O, O = w.heap.size := ⟨_, rfl⟩
  have HNI : Hid (IprAt W I 0 (fun _ => 0)) := by show IprAt W I 0 (fun _ => 0); rw [hY, hO]; exact ipr_new w 0 (fun _ => 0)
  have HLI : Hid (Below w.heap.size w W) := bY
  have HEI : Hid (w.alloc (.cells (ipCells 0 (fun _ => 0)) 24) = W) := hY.symm
  have HOI : Hid (w.heap.size = I) := hO.symm
  clear hY bY hO
  go_enter Tryd.func74, Tryd.ntmps74
  go_wp2_with (first | (refine wpList_alloc_ipr rfl rfl ?_; rw [HEI.out, HOI.out]))
  refine (hasT_any s 58 W (by have := HS.out; omega)).mono ?_
  rintro e1 wz ⟨rfl, rfl⟩
  rw [HP.out.1]
  go_wp2_with fail
  refine (dotted_any s 0 W (by have := HS.out; omega) (Nat.zero_le _)).mono ?_
  rintro e1 w1 ⟨hr, b1⟩
  unfold DtR at hr
  rw [HP.out.2.1] at hr
  obtain ⟨v, rfl, ho⟩ := hr
  rw [HP.out.2.2] at ho
  have H1 : Hid (IprAt w1 I 0 (fun _ => 0) ∧ Below w.heap.size w w1) := ⟨HNI.out.below b1, bthen HLI.out b1⟩
  obtain ⟨g, cap, hv, hg, hgs⟩ : ∃ g cap, v = .slice (some ⟨g, 0, none⟩) 4 cap ∧ W.heap.size ≤ g ∧ g < w1.heap.size := by
    rcases ho.2 with ⟨h1, h2⟩ | ⟨g, cap, cur, hv, hg, r⟩
    · omega
    · exact ⟨g, cap, hv, hg, (ho.lt g (by rw [hv]; rfl)).2⟩
  subst hv
  have HOW : Hid (w1.ownsRow W.heap.size 5 1 (.slice (some ⟨g, 0, none⟩) 4 cap) 4 (l.map fun n => Value.int .u8 (n : Nat)) ∧ W.heap.size ≤ g ∧ g < w1.heap.size) := ⟨ho, hg, hgs⟩
  clear b1 ho hg hgs
  obtain ⟨w2, hw2⟩ : ∃ w2, w2 = w1.alloc (.cells (ipCells 0 (fun _ => 0)) 24) := ⟨_, rfl⟩
  have l2 : Below w1.heap.size w1 w2 := by rw [hw2]; exact (Below.refl _ _).alloc (Nat.le_refl _) _
  have a2 := ipr_new w1 0 (fun _ => 0)
  rw [← hw2] at a2
  obtain ⟨D, hD⟩ : ∃ D, w1.heap.size = D := ⟨_, rfl⟩
  rw [hD] at a2
  have HOD : Hid (w1.heap.size = D) := hD
  have HW2 : Hid (w1.alloc (.cells (ipCells 0 (fun _ => 0)) 24) = w2) := hw2.symm
  have H2 : Hid (IprAt w2 I 0 (fun _ => 0) ∧ IprAt w2 D 0 (fun _ => 0) ∧ Below w.heap.size w w2 ∧ I < D ∧ w2.ownsRow W.heap.size 5 1 (.slice (some ⟨g, 0, none⟩) 4 cap) 4 (l.map fun n => Value.int .u8 (n : Nat))) := ⟨H1.out.1.below l2, a2, bthen H1.out.2 l2, by rw [← hD]; exact H1.out.1.lt, (Ch.ofBelow (S := fun _ => False) l2).owns HOW.out.1 (fun _ _ h => h)⟩
  have HIG : Hid (I < g ∧ g < D) := by have h1 := HOW.out.2; have h2 := HNI.out.lt; rw [hD] at h1; show I < g ∧ g < D; omega
  clear hw2 l2 a2 hD
  go_wp2_with (first | (refine wpList_ip4z (.const (.int .i64 4)) rfl rfl rfl ?_) | (refine wpList_alloc_ipr rfl rfl ?_; rw [HW2.out, HOD.out]) | (refine wpList_store_ipr (.tmp 11) (.tmp 43) rfl rfl D 0 (fun _ => 0) 4 (fun _ => 0) rfl rfl H2.out.2.1 rfl ?_))
  intro w3 h3 k3
  have H3 : Hid (IprAt w3 I 0 (fun _ => 0) ∧ IprAt w3 D 4 (pre l 0) ∧ Below w.heap.size w w3 ∧ w3.ownsRow W.heap.size 5 1 (.slice (some ⟨g, 0, none⟩) 4 cap) 4 (l.map fun n => Value.int .u8 (n : Nat))) := by
    have h1 := H2.out.2.2.2.1
    have h2 := HOI.out
    have h4 := HIG.out
    refine ⟨H2.out.1.ch k3 (by omega), ?_, H2.out.2.2.1.trans (k3.below (fun q hq => by omega) H2.out.2.2.1.size), k3.owns H2.out.2.2.2.2 (fun q hq e => by simp [Value.ownBlock] at hq; omega)⟩
    have e0 : pre l 0 = fun _ => 0 := by funext j; simp [pre]
    rw [e0]
    exact h3
  clear h3 k3
  go_wp2_with fail
  go_loopw [12] (fun iv wr => ∃ i : Nat, i ≤ 4 ∧ iv = .int .i64 (i : Nat) ∧ Hid (IprAt wr I 0 (fun _ => 0) ∧ IprAt wr D 4 (pre l i) ∧ Below w.heap.size w wr ∧ wr.ownsRow W.heap.size 5 1 (.slice (some ⟨g, 0, none⟩) 4 cap) 4 (l.map fun n => Value.int .u8 (n : Nat)))) (fun iv _ => 4 - (intOf iv).toNat)
  case atStart => exact ⟨0, by omega, rfl, H3.out⟩
  case round =>
    obtain ⟨i, hi, rfl, HF⟩ := hrel
    by_cases hil : i < 4
    · have p1 : decide ((i : Int) < 4) = true := decide_eq_true (by omega)
      have p2 : (i : Int) < 4 := by omega
      have p3 : (i : Int) < 16 := by omega
      have w1' : IntKind.i64.wrap ((i : Int) + 1) = (i : Int) + 1 := i64_s _ (by omega) (by omega)
      have HIL : Hid (i < 4) := hil
      have hln : i < l.length := by rw [HP.out.2.2]; exact hil
      obtain ⟨v, hv⟩ : ∃ v, l.getD i 0 = v := ⟨_, rfl⟩
      have HV : Hid (l.getD i 0 = v) := hv
      have ce : wr.cell? ⟨g, i, none⟩ = some (.int .u8 (v : Nat)) := by
        have h1 := HF.out.2.2.2.cellAt i (by simpa using hil)
        rw [h1, List.getElem?_map, List.getElem?_eq_getElem hln, ← hv, List.getD_eq_getElem?_getD, List.getElem?_eq_getElem hln]
        rfl
      have cb := HF.out.2.1.byte i (by omega)
      have fb := HF.out.2.1.fz (1 + i)
      have hp := HF.out.2.1.put i v (by omega)
      rw [← hv, pre_succ, hv] at hp
      obtain ⟨w5, hw5⟩ : ∃ w5, w5 = wr.setCell ⟨D, 1 + i, none⟩ (.int .u8 (v : Nat)) := ⟨_, rfl⟩
      have HW5 : Hid (wr.setCell ⟨D, 1 + i, none⟩ (.int .u8 (v : Nat)) = w5) := hw5.symm
      have k5 : Ch (fun q => q = D) wr w5 := by rw [hw5]; exact (Ch.refl (fun q => q = D) wr).set ⟨D, 1 + i, none⟩ _ rfl
      rw [← hw5] at hp
      have H5 : Hid (IprAt w5 I 0 (fun _ => 0) ∧ IprAt w5 D 4 (pre l (i + 1)) ∧ Below w.heap.size w w5 ∧ w5.ownsRow W.heap.size 5 1 (.slice (some ⟨g, 0, none⟩) 4 cap) 4 (l.map fun n => Value.int .u8 (n : Nat))) := by
        have h1 := H2.out.2.2.2.1
        have h2 := HOI.out
        have h4 := HIG.out
        exact ⟨HF.out.1.ch k5 (by omega), hp, HF.out.2.2.1.trans (k5.below (fun q hq => by omega) HF.out.2.2.1.size), k5.owns HF.out.2.2.2 (fun q hq e => by simp [Value.ownBlock] at hq; omega)⟩
      clear hp k5 hw5 hv hln hil hi
      go_upto_region 14 with fail
      rw [HW5.out]
      clear ce cb fb
      go_wp2_with fail
      go_roundw
      case rel => exact ⟨i + 1, HIL.out, by simp, H5.out⟩
      case measure => have := HIL.out; simp [intOf]; omega
    · have p1 : decide ((i : Int) < 4) = false := decide_eq_false (by omega)
      have p2 : ¬ (i : Int) < 4 := by omega
      have HI4 : Hid (i = 4) := by show i = 4; omega
      clear hil hi
      go_wp2_with (first | (refine wpList_load_ipr (.tmp 11) rfl D 4 (pre l i) rfl HF.out.2.1 rfl ?_) | (refine wpList_store_ipr (.tmp 2) (.tmp 55) rfl rfl I 0 (fun _ => 0) 4 (pre l i) rfl rfl HF.out.1 rfl ?_))
      intro w6 h6 k6
      have H6 : Hid (IprAt w6 I 4 (pre l i) ∧ Below w.heap.size w w6) := ⟨h6, HF.out.2.2.1.trans (k6.below (fun q hq => by have h2 := HOI.out; omega) HF.out.2.2.1.size)⟩
      clear h6 k6
      go_wp2_with fail
      refine bodyPost_ret (results_ip3 rfl _ _ I _ _ rfl H6.out.1) rfl ?_
      exact ⟨by rw [HI4.out]; rfl, H6.out.2⟩
end Go.Proofs.YtclpeepnngegaaaDoor
