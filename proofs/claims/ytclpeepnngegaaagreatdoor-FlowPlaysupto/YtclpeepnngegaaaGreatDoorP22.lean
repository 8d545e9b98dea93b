/-
  R4l R4m R4n: lemmas of the proof of FlowPlays, and walks through the functions that it calls.
-/
import Derived.Test.YtclpeepnngegaaaGreatDoorP00
import Derived.Test.YtclpeepnngegaaaGreatDoorP20
import Derived.Test.YtclpeepnngegaaaGreatDoorP21
namespace Go.Proofs.YtclpeepnngegaaaGreatDoor
open Go.RowKit Go.Maps
theorem run_ip6 (x : Nat → Nat) (w : World) : (Instr.build 24 #[(0, .int .i64 6), (1, .agg (arCells x))]).run Tryz.prog w = .ok (.agg (ipCells 6 x)) w := by kernel_rfl
theorem wpList_ip6 {ops : Array Oper} {rest : List Oper} {o : Oper} {a_ : Act} {w : World} {Q : Exit → Act → World → Prop} (y0 y1 : Operand) (ho : o.op = .build 24 #[(0, y0), (1, y1)]) (x : Nat → Nat) (h0 : a_.eval y0 = .int .i64 6) (h1 : a_.eval y1 = .agg (arCells x)) (hw : Region.wanted o (yielded ops a_.tmps) = true)
 (h : wpList Tryz.prog ops Q rest (a_.put o.dst (.agg (ipCells 6 x))) w) : wpList Tryz.prog ops Q (o :: rest) a_ w := by
 refine wpList_step fun K hK => ?_
 rw [if_pos hw]
 have hrun : (execOp a_.eval o).run Tryz.prog w = .ok (.value (.agg (ipCells 6 x))) w := by
  obtain ⟨dst, op, type, pos, after, guard⟩ := o
  simp only at ho
  subst ho
  simp only [execOp, Sem.run_bind, List.map_toArray, List.map_cons, List.map_nil, h0, h1, run_ip6 x w, Result.andThen_ok]
  rfl
 unfold Oper.wp
 rw [hrun]
 exact hK _ _ h
theorem run_ip4z  (w : World) : (Instr.build 24 #[(0, .int .i64 4)]).run Tryz.prog w = .ok (.agg (ipCells 4 (fun _ => 0))) w := by kernel_rfl
theorem wpList_ip4z {ops : Array Oper} {rest : List Oper} {o : Oper} {a_ : Act} {w : World} {Q : Exit → Act → World → Prop} (y0 : Operand) (ho : o.op = .build 24 #[(0, y0)])  (h0 : a_.eval y0 = .int .i64 4) (hw : Region.wanted o (yielded ops a_.tmps) = true)
 (h : wpList Tryz.prog ops Q rest (a_.put o.dst (.agg (ipCells 4 (fun _ => 0)))) w) : wpList Tryz.prog ops Q (o :: rest) a_ w := by
 refine wpList_step fun K hK => ?_
 rw [if_pos hw]
 have hrun : (execOp a_.eval o).run Tryz.prog w = .ok (.value (.agg (ipCells 4 (fun _ => 0)))) w := by
  obtain ⟨dst, op, type, pos, after, guard⟩ := o
  simp only at ho
  subst ho
  simp only [execOp, Sem.run_bind, List.map_toArray, List.map_cons, List.map_nil, h0, run_ip4z  w, Result.andThen_ok]
  rfl
 unfold Oper.wp
 rw [hrun]
 exact hK _ _ h
theorem results_ip3 {fn : Func} {p u v : Tmp} (h : fn.results = #[.cell p 24, .tmp u, .tmp v]) (tmps : Array Value) (w : World) (O : Nat) (V : Int) (x : Nat → Nat) (hp : tmps.getD p undef = .pointer (some ⟨O, 0, none⟩)) (hb : IprAt w O V x) :
 (results fn tmps).run Tryz.prog w = .ok (.tuple #[.agg (ipCells V x), tmps.getD u undef, tmps.getD v undef]) w := by
 have hp' : tmps[p]?.getD undef = .pointer (some ⟨O, 0, none⟩) := by simpa using hp
 simp [results, h, hp', asAddr, run_loadVar_row w O _ 24 (ipCells V x) _ _ hb Tryz.underlying24 rfl Tryz.size_ipr]
theorem ip_set (V : Int) (x : Nat → Nat) (k v : Nat) (h : k < 16) : (ipCells V x).setIfInBounds (1 + k) (.int .u8 (v : Nat)) = ipCells V (up1 x k v) := by
 have : k = 0 ∨ k = 1 ∨ k = 2 ∨ k = 3 ∨ k = 4 ∨ k = 5 ∨ k = 6 ∨ k = 7 ∨ k = 8 ∨ k = 9 ∨ k = 10 ∨ k = 11 ∨ k = 12 ∨ k = 13 ∨ k = 14 ∨ k = 15 := by omega
 rcases this with rfl | rfl | rfl | rfl | rfl | rfl | rfl | rfl | rfl | rfl | rfl | rfl | rfl | rfl | rfl | rfl <;> simp [ipCells, up1]
theorem IprAt.put {w : World} {O : Nat} {V : Int} {x : Nat → Nat} (h : IprAt w O V x) (k v : Nat) (hk : k < 16) : IprAt (w.setCell ⟨O, 1 + k, none⟩ (.int .u8 (v : Nat))) O V (up1 x k v) := by
 unfold IprAt at h ⊢
 rw [heap_setCell_same w O (1 + k) _ _ _ h, ip_set V x k v hk]
set_option maxHeartbeats 1600000 in
set_option maxRecDepth 100000 in
theorem parse6_right (s : ByteArray) (w : World) (hs : s.size ≤ 45) (hc : hsB s 58 = true) (hnd : ∀ i, sB s i ≠ 46) (hok : (sxL s).er = 0) (h8 : (decide ((sxL s).gap < 0) && decide ((sxL s).g.length < 8)) = false) : Calls Tryz.prog 82 #[.string s] w fun r w' => r = .returned (.tuple #[.agg (ipCells 6 (fil (sxL s) (sxL s).g.length)), .int .i64 0, .int .i64 0]) ∧ Below w.heap.size w w' := by
 have HS : Hid (s.size ≤ 45) := hs
 have HP : Hid (hsB s 58 = true ∧ (∀ i, sB s i ≠ 46) ∧ (sxL s).er = 0 ∧ (decide ((sxL s).gap < 0) && decide ((sxL s).g.length < 8)) = false) := ⟨hc, hnd, hok, h8⟩
 have q1 : decide ((45 : Int) < (s.size : Int)) = false := decide_eq_false (by omega)
 clear hs hc hnd hok h8
 obtain ⟨x, hx⟩ : ∃ x, fil (sxL s) (sxL s).g.length = x := ⟨_, rfl⟩
 have HX : Hid (fil (sxL s) (sxL s).g.length = x) := hx
 rw [hx]
 clear hx
 obtain ⟨W, I, -, HOI, HLI, HEI, hb⟩ := zBx w (ipCells 0 (fun _ => 0)) 24
 have HNI : Hid (IprAt W I 0 (fun _ => 0)) := hb
 clear hb
 go_enter Tryz.func82, Tryz.ntmps82
 go_wp2_with (first | (refine wpList_alloc_ipr rfl rfl ?_; rw [HEI.out, HOI.out]))
 refine (hasT_any s 58 W (by have := HS.out; omega)).mono ?_
 rintro e1 wz ⟨rfl, rfl⟩
 rw [HP.out.1]
 go_wp2_with fail
 refine (sixes_plain s W (by have := HS.out; omega) HP.out.2.1 HP.out.2.2.1 HP.out.2.2.2).mono ?_
 rintro e1 w1 ⟨rfl, b1⟩
 rw [HX.out]
 have H1 : Hid (IprAt w1 I 0 (fun _ => 0) ∧ Below w.heap.size w w1) := ⟨HNI.out.below b1, bthen HLI.out b1⟩
 clear b1
 obtain ⟨w2, hw2⟩ : ∃ w2, w2 = w1.alloc (.cells (arCells fun _ => 0) 22) := ⟨_, rfl⟩
 have l2 : Below w1.heap.size w1 w2 := by rw [hw2]; exact (Below.refl _ _).alloc (Nat.le_refl _) _
 have a2 := arAt_new w1 (arCells fun _ => 0)
 rw [← hw2] at a2
 obtain ⟨D, hD⟩ : ∃ D, w1.heap.size = D := ⟨_, rfl⟩
 rw [hD] at a2
 have HOD : Hid (w1.heap.size = D) := hD
 have HW2 : Hid (w1.alloc (.cells #[.int .u8 0, .int .u8 0, .int .u8 0, .int .u8 0, .int .u8 0, .int .u8 0, .int .u8 0, .int .u8 0, .int .u8 0, .int .u8 0, .int .u8 0, .int .u8 0, .int .u8 0, .int .u8 0, .int .u8 0, .int .u8 0] 22) = w2) := hw2.symm
 have H2 : Hid (IprAt w2 I 0 (fun _ => 0) ∧ ArAt w2 D (arCells fun _ => 0) ∧ Below w.heap.size w w2 ∧ I < D) := ⟨H1.out.1.below l2, a2, bthen H1.out.2 l2, by rw [← hD]; exact H1.out.1.lt⟩
 clear hw2 l2 a2 hD
 go_wp2_with (first | (rw [HOD.out, HW2.out]) | (refine wpList_store_ar (.tmp 5) (.tmp 22) rfl rfl D (fun _ => 0) x rfl rfl H2.out.2.1 rfl ?_))
 intro w3 h3 k3
 have H3 : Hid (IprAt w3 I 0 (fun _ => 0) ∧ ArAt w3 D (arCells x) ∧ Below w.heap.size w w3) := ⟨H2.out.1.ch k3 (by have := H2.out.2.2.2; omega), h3, H2.out.2.2.1.trans (k3.below (fun q hq => by have h1 := H2.out.2.2.2; have h2 := HOI.out; omega) H2.out.2.2.1.size)⟩
 clear h3 k3
 go_wp2_with (first | (refine wpList_load_ar (.tmp 5) rfl D 0 x rfl H3.out.2.1.range rfl ?_) | (refine wpList_ip6 (.const (.int .i64 6)) (.tmp 30) rfl x rfl rfl rfl ?_) | (refine wpList_store_ipr (.tmp 2) (.tmp 31) rfl rfl I 0 (fun _ => 0) 6 x rfl rfl H3.out.1 rfl ?_))
 intro w4 h4 k4
 have H4 : Hid (IprAt w4 I 6 x ∧ Below w.heap.size w w4) := ⟨h4, H3.out.2.2.trans (k4.below (fun q hq => by have h2 := HOI.out; omega) H3.out.2.2.size)⟩
 clear h4 k4
 go_wp2_with fail
 refine bodyPost_ret (results_ip3 rfl _ _ I _ _ rfl H4.out.1) rfl ?_
 exact ⟨rfl, H4.out.2⟩
def pre (l : List Nat) (i : Nat) : Nat → Nat := fun j => if j < i then l.getD j 0 else 0
theorem pre_succ (l : List Nat) (i : Nat) : up1 (pre l i) i (l.getD i 0) = pre l (i + 1) := by
 funext j
 unfold up1 pre
 by_cases h : j = i
 · subst h; simp
 · rw [if_neg h]
   by_cases h2 : j < i
   · rw [if_pos h2, if_pos (by omega)]
   · rw [if_neg h2, if_neg (by omega)]
set_option maxHeartbeats 1600000 in
set_option maxRecDepth 100000 in
theorem parse4_right (s : ByteArray) (l : List Nat) (w : World) (hs : s.size ≤ 45) (hc : hsB s 58 = false) (hl : l.length = 4) (hd : dtd s 4 0 [] = .inl l) : Calls Tryz.prog 82 #[.string s] w fun r w' => r = .returned (.tuple #[.agg (ipCells 4 (pre l 4)), .int .i64 0, .int .i64 0]) ∧ Below w.heap.size w w' := by
 have HS : Hid (s.size ≤ 45) := hs
 have HP : Hid (hsB s 58 = false ∧ dtd s 4 0 [] = .inl l ∧ l.length = 4) := ⟨hc, hd, hl⟩
 have q1 : decide ((45 : Int) < (s.size : Int)) = false := decide_eq_false (by omega)
 clear hs hc hd hl
 obtain ⟨W, I, -, HOI, HLI, HEI, hb⟩ := zBx w (ipCells 0 (fun _ => 0)) 24
 have HNI : Hid (IprAt W I 0 (fun _ => 0)) := hb
 clear hb
 go_enter Tryz.func82, Tryz.ntmps82
 go_wp2_with (first | (refine wpList_alloc_ipr rfl rfl ?_; rw [HEI.out, HOI.out]))
 refine (hasT_any s 58 W (by have := HS.out; omega)).mono ?_
 rintro e1 wz ⟨rfl, rfl⟩
 rw [HP.out.1]
 go_wp2_with fail
 refine (dotted_any s 0 W (by have := HS.out; omega) (Nat.zero_le _)).mono ?_
 rintro e1 w1 ⟨hr, b1⟩
 unfold DtR at hr
 rw [HP.out.2.1] at hr
 obtain ⟨v, rfl, ho⟩ := hr
 rw [HP.out.2.2] at ho
 have H1 : Hid (IprAt w1 I 0 (fun _ => 0) ∧ Below w.heap.size w w1) := ⟨HNI.out.below b1, bthen HLI.out b1⟩
 obtain ⟨g, cap, hv, hg, hgs⟩ : ∃ g cap, v = .slice (some ⟨g, 0, none⟩) 4 cap ∧ W.heap.size ≤ g ∧ g < w1.heap.size := by
  rcases ho.2 with ⟨h1, h2⟩ | ⟨g, cap, cur, hv, hg, r⟩
  · omega
  · exact ⟨g, cap, hv, hg, (ho.lt g (by rw [hv]; rfl)).2⟩
 subst hv
 have HOW : Hid (w1.ownsRow W.heap.size 5 1 (.slice (some ⟨g, 0, none⟩) 4 cap) 4 (l.map fun n => Value.int .u8 (n : Nat)) ∧ W.heap.size ≤ g ∧ g < w1.heap.size) := ⟨ho, hg, hgs⟩
 clear b1 ho hg hgs
 obtain ⟨w2, hw2⟩ : ∃ w2, w2 = w1.alloc (.cells (ipCells 0 (fun _ => 0)) 24) := ⟨_, rfl⟩
 have l2 : Below w1.heap.size w1 w2 := by rw [hw2]; exact (Below.refl _ _).alloc (Nat.le_refl _) _
 have a2 := ipr_new w1 0 (fun _ => 0)
 rw [← hw2] at a2
 obtain ⟨D, hD⟩ : ∃ D, w1.heap.size = D := ⟨_, rfl⟩
 rw [hD] at a2
 have HOD : Hid (w1.heap.size = D) := hD
 have HW2 : Hid (w1.alloc (.cells (ipCells 0 (fun _ => 0)) 24) = w2) := hw2.symm
 have H2 : Hid (IprAt w2 I 0 (fun _ => 0) ∧ IprAt w2 D 0 (fun _ => 0) ∧ Below w.heap.size w w2 ∧ I < D ∧ w2.ownsRow W.heap.size 5 1 (.slice (some ⟨g, 0, none⟩) 4 cap) 4 (l.map fun n => Value.int .u8 (n : Nat))) := ⟨H1.out.1.below l2, a2, bthen H1.out.2 l2, by rw [← hD]; exact H1.out.1.lt, (Ch.ofBelow (S := fun _ => False) l2).owns HOW.out.1 (fun _ _ h => h)⟩
 have HIG : Hid (I < g ∧ g < D) := by have h1 := HOW.out.2; have h2 := HNI.out.lt; rw [hD] at h1; show I < g ∧ g < D; omega
 clear hw2 l2 a2 hD
 go_wp2_with (first | (refine wpList_ip4z (.const (.int .i64 4)) rfl rfl rfl ?_) | (refine wpList_alloc_ipr rfl rfl ?_; rw [HW2.out, HOD.out]) | (refine wpList_store_ipr (.tmp 11) (.tmp 43) rfl rfl D 0 (fun _ => 0) 4 (fun _ => 0) rfl rfl H2.out.2.1 rfl ?_))
 intro w3 h3 k3
 have H3 : Hid (IprAt w3 I 0 (fun _ => 0) ∧ IprAt w3 D 4 (pre l 0) ∧ Below w.heap.size w w3 ∧ w3.ownsRow W.heap.size 5 1 (.slice (some ⟨g, 0, none⟩) 4 cap) 4 (l.map fun n => Value.int .u8 (n : Nat))) := by
  have h1 := H2.out.2.2.2.1
  have h2 := HOI.out
  have h4 := HIG.out
  refine ⟨H2.out.1.ch k3 (by omega), ?_, H2.out.2.2.1.trans (k3.below (fun q hq => by omega) H2.out.2.2.1.size), k3.owns H2.out.2.2.2.2 (fun q hq e => by simp [Value.ownBlock] at hq; omega)⟩
  have e0 : pre l 0 = fun _ => 0 := by funext j; simp [pre]
  rw [e0]
  exact h3
 clear h3 k3
 go_wp2_with fail
 go_loopw [12] (fun iv wr => ∃ i : Nat, i ≤ 4 ∧ iv = .int .i64 (i : Nat) ∧ Hid (IprAt wr I 0 (fun _ => 0) ∧ IprAt wr D 4 (pre l i) ∧ Below w.heap.size w wr ∧ wr.ownsRow W.heap.size 5 1 (.slice (some ⟨g, 0, none⟩) 4 cap) 4 (l.map fun n => Value.int .u8 (n : Nat)))) (fun iv _ => 4 - (intOf iv).toNat)
 case atStart => exact ⟨0, by omega, rfl, H3.out⟩
 case round =>
  obtain ⟨i, hi, rfl, HF⟩ := hrel
  by_cases hil : i < 4
  · have p1 : decide ((i : Int) < 4) = true := decide_eq_true (by omega)
    have p2 : (i : Int) < 4 := by omega
    have p3 : (i : Int) < 16 := by omega
    have w1' : IntKind.i64.wrap ((i : Int) + 1) = (i : Int) + 1 := i64_s _ (by omega) (by omega)
    have HIL : Hid (i < 4) := hil
    have hln : i < l.length := by rw [HP.out.2.2]; exact hil
    obtain ⟨v, hv⟩ : ∃ v, l.getD i 0 = v := ⟨_, rfl⟩
    have HV : Hid (l.getD i 0 = v) := hv
    have ce : wr.cell? ⟨g, i, none⟩ = some (.int .u8 (v : Nat)) := by
     have h1 := HF.out.2.2.2.cellAt i (by simpa using hil)
     rw [h1, List.getElem?_map, List.getElem?_eq_getElem hln, ← hv, List.getD_eq_getElem?_getD, List.getElem?_eq_getElem hln]
     rfl
    have cb := HF.out.2.1.byte i (by omega)
    have fb := HF.out.2.1.fz (1 + i)
    have hp := HF.out.2.1.put i v (by omega)
    rw [← hv, pre_succ, hv] at hp
    obtain ⟨w5, hw5⟩ : ∃ w5, w5 = wr.setCell ⟨D, 1 + i, none⟩ (.int .u8 (v : Nat)) := ⟨_, rfl⟩
    have HW5 : Hid (wr.setCell ⟨D, 1 + i, none⟩ (.int .u8 (v : Nat)) = w5) := hw5.symm
    have k5 : Ch (fun q => q = D) wr w5 := by rw [hw5]; exact (Ch.refl (fun q => q = D) wr).set ⟨D, 1 + i, none⟩ _ rfl
    rw [← hw5] at hp
    have H5 : Hid (IprAt w5 I 0 (fun _ => 0) ∧ IprAt w5 D 4 (pre l (i + 1)) ∧ Below w.heap.size w w5 ∧ w5.ownsRow W.heap.size 5 1 (.slice (some ⟨g, 0, none⟩) 4 cap) 4 (l.map fun n => Value.int .u8 (n : Nat))) := by
     have h1 := H2.out.2.2.2.1
     have h2 := HOI.out
     have h4 := HIG.out
     exact ⟨HF.out.1.ch k5 (by omega), hp, HF.out.2.2.1.trans (k5.below (fun q hq => by omega) HF.out.2.2.1.size), k5.owns HF.out.2.2.2 (fun q hq e => by simp [Value.ownBlock] at hq; omega)⟩
    clear hp k5 hw5 hv hln hil hi
    go_upto_region 14 with fail
    rw [HW5.out]
    clear ce cb fb
    go_wp2_with fail
    go_roundw
    case rel => exact ⟨i + 1, HIL.out, by simp, H5.out⟩
    case measure => have := HIL.out; simp [intOf]; omega
  · have p1 : decide ((i : Int) < 4) = false := decide_eq_false (by omega)
    have p2 : ¬ (i : Int) < 4 := by omega
    have HI4 : Hid (i = 4) := by show i = 4; omega
    clear hil hi
    go_wp2_with (first | (refine wpList_load_ipr (.tmp 11) rfl D 4 (pre l i) rfl HF.out.2.1 rfl ?_) | (refine wpList_store_ipr (.tmp 2) (.tmp 55) rfl rfl I 0 (fun _ => 0) 4 (pre l i) rfl rfl HF.out.1 rfl ?_))
    intro w6 h6 k6
    have H6 : Hid (IprAt w6 I 4 (pre l i) ∧ Below w.heap.size w w6) := ⟨h6, HF.out.2.2.1.trans (k6.below (fun q hq => by have h2 := HOI.out; omega) HF.out.2.2.1.size)⟩
    clear h6 k6
    go_wp2_with fail
    refine bodyPost_ret (results_ip3 rfl _ _ I _ _ rfl H6.out.1) rfl ?_
    exact ⟨by rw [HI4.out]; rfl, H6.out.2⟩
end Go.Proofs.YtclpeepnngegaaaGreatDoor
namespace Go.Proofs.YtclpeepnngegaaaGreatDoor
open Go.RowKit Go.Maps
theorem run_pfx2 (V : Int) (x : Nat → Nat) (n : Int) (w : World) : (Instr.build 117 #[(0, .agg (ipCells V x)), (1, .int .i64 n)]).run Tryz.prog w = .ok (.agg (pfC ⟨V, x, n⟩)) w := by kernel_rfl
theorem wpList_pfx2 {ops : Array Oper} {rest : List Oper} {o : Oper} {a_ : Act} {w : World} {Q : Exit → Act → World → Prop} (y0 y1 : Operand) (ho : o.op = .build 117 #[(0, y0), (1, y1)]) (V : Int) (x : Nat → Nat) (n : Int) (h0 : a_.eval y0 = .agg (ipCells V x)) (h1 : a_.eval y1 = .int .i64 n) (hw : Region.wanted o (yielded ops a_.tmps) = true)
 (h : wpList Tryz.prog ops Q rest (a_.put o.dst (.agg (pfC ⟨V, x, n⟩))) w) : wpList Tryz.prog ops Q (o :: rest) a_ w := by
 refine wpList_step fun K hK => ?_
 rw [if_pos hw]
 have hrun : (execOp a_.eval o).run Tryz.prog w = .ok (.value (.agg (pfC ⟨V, x, n⟩))) w := by
  obtain ⟨dst, op, type, pos, after, guard⟩ := o
  simp only at ho
  subst ho
  simp only [execOp, Sem.run_bind, List.map_toArray, List.map_cons, List.map_nil, h0, h1, run_pfx2 V x n w, Result.andThen_ok]
  rfl
 unfold Oper.wp
 rw [hrun]
 exact hK _ _ h
theorem results_pf3 {fn : Func} {p u v : Tmp} (h : fn.results = #[.cell p 117, .tmp u, .tmp v]) (tmps : Array Value) (w : World) (O : Nat) (x : PV) (hp : tmps.getD p undef = .pointer (some ⟨O, 0, none⟩)) (hb : PfxAt w O x) :
 (results fn tmps).run Tryz.prog w = .ok (.tuple #[.agg (pfC x), tmps.getD u undef, tmps.getD v undef]) w := by
 have hp' : tmps[p]?.getD undef = .pointer (some ⟨O, 0, none⟩) := by simpa using hp
 simp [results, h, hp', asAddr, run_loadVar_row w O _ 117 (pfC x) _ _ hb Tryz.underlying117 rfl Tryz.size_pfx]
structure PfOk (s : ByteArray) (k : Nat) (V : Int) (x : Nat → Nat) (n : Nat) : Prop where
  sz : s.size ≤ 49
  kl : k + 1 < s.size
  no : ∀ i, i < k → sB s i ≠ 47
  at_ : sB s k = 47
  ip : ∀ w, Calls Tryz.prog 82 #[.string (s.extract 0 k)] w fun r w' => r = .returned (.tuple #[.agg (ipCells V x), .int .i64 0, .int .i64 0]) ∧ Below w.heap.size w w'
  xb : ∀ i, i < 16 → x i < 256
  dg : ∀ i, i < s.size - (k + 1) → dgB (sB s (k + 1 + i)) = true
  nm : dcm s (k + 1) s.size (wdN V) = (n : Nat)
  vp : vpR ⟨V, x, (n : Nat)⟩ = 0
set_option maxHeartbeats 1600000 in
set_option maxRecDepth 100000 in
theorem prefix_right {s : ByteArray} {k : Nat} {V : Int} {x : Nat → Nat} {n : Nat} (h : PfOk s k V x n) (w : World) : Calls Tryz.prog 65 #[.string s] w fun r w' => r = .returned (.tuple #[.agg (pfC ⟨V, x, (n : Nat)⟩), .int .i64 0, .int .i64 0]) ∧ Below w.heap.size w w' := by
 have HP : Hid (PfOk s k V x n) := h
 have q1 : decide ((49 : Int) < (s.size : Int)) = false := decide_eq_false (by have := h.sz; omega)
 clear h
 obtain ⟨W, I, -, HOI, HLI, HEI, hb⟩ := zBx w (pfC pv0) 117
 have HNI : Hid (PfxAt W I pv0) := hb
 clear hb
 go_enter Tryz.func65, Tryz.ntmps65
 go_wp2_with (first | (refine wpList_alloc_pfx rfl rfl ?_; rw [HEI.out, HOI.out]))
 go_loopw [5] (fun iv wr => ∃ i : Nat, i ≤ k ∧ iv = .int .i64 (i : Nat) ∧ W = wr) (fun iv _ => k - (intOf iv).toNat)
 case atStart => exact ⟨0, Nat.zero_le _, rfl, rfl⟩
 case round =>
  obtain ⟨i, hi, rfl, rfl⟩ := hrel
  have HIS : Hid (i < s.size) := by have := HP.out.kl; show i < s.size; omega
  have p1 : decide ((i : Int) < (s.size : Int)) = true := decide_eq_true (by have := HIS.out; omega)
  have p2 : decide (i < s.size) = true := decide_eq_true HIS.out
  have ww1 : IntKind.i64.wrap ((i : Int) + 1) = (i : Int) + 1 := i64_s _ (by omega) (by have := HIS.out; have := HP.out.sz; omega)
  by_cases hik : i < k
  · have n1 : (((sB s i : Nat) : Int) != 47) = true := by have := HP.out.no i hik; simp; omega
    have n2 : (((sB s i : Nat) : Int) == 47) = false := by have := HP.out.no i hik; simp; omega
    have HIK : Hid (i < k) := hik
    clear hik hi
    go_wp2_with (refine wpList_sB (.tmp 23) (.tmp 24) rfl s i _ rfl rfl rfl HIS.out rfl ?_)
    go_roundw
    case rel => exact ⟨i + 1, HIK.out, by simp, by first | rfl | trivial⟩
    case measure => have := HIK.out; simp [intOf]; omega
  · obtain rfl : i = k := by omega
    have n1 : (((sB s i : Nat) : Int) != 47) = false := by have := HP.out.at_; simp [this]
    have n2 : (((sB s i : Nat) : Int) == 47) = true := by have := HP.out.at_; simp [this]
    have n3 : ((i : Int) == (s.size : Int)) = false := by have := HIS.out; simp; omega
    have n4 : (i == s.size) = false := by have := HIS.out; simp; omega
    have hik0 : (0 : Int) ≤ (i : Int) := by omega
    have hik1 : (i : Int) ≤ (s.size : Int) := by have := HIS.out; omega
    obtain ⟨u, hu⟩ : ∃ u, s.extract 0 i = u := ⟨_, rfl⟩
    have HU : Hid (s.extract 0 i = u) := hu
    have HPI : Hid (∀ w, Calls Tryz.prog 82 #[.string u] w fun r w' => r = .returned (.tuple #[.agg (ipCells V x), .int .i64 0, .int .i64 0]) ∧ Below w.heap.size w w') := by have := HP.out.ip; rw [hu] at this; exact this
    clear hik hi hu
    go_wp2_with (refine wpList_sB (.tmp 23) (.tmp 24) rfl s i _ rfl rfl rfl HIS.out rfl ?_)
    try rw [HU.out]
    refine (HPI.out W).mono ?_
    rintro e1 w1 ⟨rfl, b1⟩
    have H1 : Hid (PfxAt w1 I pv0 ∧ Below w.heap.size w w1) := ⟨HNI.out.below b1, bthen HLI.out b1⟩
    clear b1
    obtain ⟨w2, hw2⟩ : ∃ w2, w2 = w1.alloc (.cells (ipCells 0 (fun _ => 0)) 24) := ⟨_, rfl⟩
    have l2 : Below w1.heap.size w1 w2 := by rw [hw2]; exact (Below.refl _ _).alloc (Nat.le_refl _) _
    have a2 := ipr_new w1 0 (fun _ => 0)
    rw [← hw2] at a2
    obtain ⟨D, hD⟩ : ∃ D, w1.heap.size = D := ⟨_, rfl⟩
    rw [hD] at a2
    have HOD : Hid (w1.heap.size = D) := hD
    have HW2 : Hid (w1.alloc (.cells (ipCells 0 (fun _ => 0)) 24) = w2) := hw2.symm
    have H2 : Hid (PfxAt w2 I pv0 ∧ IprAt w2 D 0 (fun _ => 0) ∧ Below w.heap.size w w2 ∧ I < D) := ⟨H1.out.1.below l2, a2, bthen H1.out.2 l2, by rw [← hD]; exact H1.out.1.lt⟩
    clear hw2 l2 a2 hD
    go_wp2_with (first | (refine wpList_alloc_ipr rfl rfl ?_; rw [HW2.out, HOD.out]) | (refine wpList_store_ipr (.tmp 6) (.tmp 42) rfl rfl D 0 (fun _ => 0) V x rfl rfl H2.out.2.1 rfl ?_))
    intro w3 h3 k3
    have H3 : Hid (PfxAt w3 I pv0 ∧ IprAt w3 D V x ∧ Below w.heap.size w w3) := ⟨H2.out.1.ch k3 (by have := H2.out.2.2.2; omega), h3, H2.out.2.2.1.trans (k3.below (fun q hq => by have h1 := H2.out.2.2.2; have h2 := HOI.out; omega) H2.out.2.2.1.size)⟩
    clear h3 k3
    obtain ⟨z, hz⟩ : ∃ z, i + 1 = z := ⟨_, rfl⟩
    have HZ : Hid (i + 1 = z) := hz
    have w1z : IntKind.i64.wrap ((i : Int) + 1) = (z : Int) := by rw [ww1]; omega
    clear hz ww1 n1 n2 p1 p2 n3 n4
    go_wp2_with fail
    go_loopw [9] (fun qv wr => ∃ q : Nat, z ≤ q ∧ q ≤ s.size ∧ qv = .int .i64 (q : Nat) ∧ w3 = wr) (fun qv _ => s.size - (intOf qv).toNat)
    case atStart => exact ⟨z, Nat.le_refl _, by have h1 := HZ.out; have h2 := HP.out.kl; omega, rfl, rfl⟩
    case round =>
     obtain ⟨q, hq1, hq2, rfl, rfl⟩ := hrel
     by_cases hqs : q < s.size
     · have p1 : decide ((q : Int) < (s.size : Int)) = true := decide_eq_true (by omega)
       have p2 : decide (q < s.size) = true := decide_eq_true hqs
       have w1q : IntKind.i64.wrap ((q : Int) + 1) = (q : Int) + 1 := i64_s _ (by omega) (by have := HP.out.sz; omega)
       have HQS : Hid (q < s.size ∧ z ≤ q) := ⟨hqs, hq1⟩
       have HB : Hid (dgB (sB s q) = true) := by
        have h1 := HP.out.dg (q - z) (by have h1 := HZ.out; omega)
        rw [show i + 1 + (q - z) = q by have h1 := HZ.out; omega] at h1
        exact h1
       clear hqs hq1 hq2
       go_wp2_with (refine wpList_sB (.tmp 57) (.tmp 58) rfl s q _ rfl rfl rfl HQS.out.1 rfl ?_)
       refine (digit_any (sB s q) w3).mono ?_
       rintro e1 wz ⟨rfl, rfl⟩
       rw [HB.out]
       go_wp2_with fail
       go_roundw
       case rel => exact ⟨q + 1, by have := HQS.out; omega, HQS.out.1, by simp, by first | rfl | trivial⟩
       case measure => have := HQS.out; simp [intOf]; omega
     · obtain rfl : q = s.size := by omega
       have p1 : decide ((s.size : Int) < (s.size : Int)) = false := decide_eq_false (by omega)
       have p2 : decide (s.size < s.size) = false := decide_eq_false (by omega)
       have e1 : ((s.size : Int) == (z : Int)) = false := by have h1 := HZ.out; have h2 := HP.out.kl; simp; omega
       have e2 : (s.size == z) = false := by have h1 := HZ.out; have h2 := HP.out.kl; simp; omega
       have nn : ¬ ((n : Nat) : Int) < 0 := by omega
       have nd : decide (((n : Nat) : Int) < 0) = false := decide_eq_false nn
       have HDZ : Hid (z ≤ s.size) := hq1
       clear hqs hq1 hq2
       go_wp2_with (first | (refine wpList_load_ipr (.tmp 6) rfl D V x rfl H3.out.2.1 rfl ?_))
       refine (width_any V x w3).mono ?_
       rintro e3 w4 ⟨rfl, b4⟩
       have H4 : Hid (PfxAt w4 I pv0 ∧ IprAt w4 D V x ∧ Below w.heap.size w w4) := ⟨H3.out.1.below b4, H3.out.2.1.below b4, bthen H3.out.2.2 b4⟩
       clear b4
       go_wp2_with fail
       refine (decimal_any s z s.size (wdN V) w4 HDZ.out (Nat.le_refl _) (by have := HP.out.sz; omega) (fun j hj => by have h1 := HP.out.dg j (by have h1 := HZ.out; omega); rw [HZ.out] at h1; exact h1)).mono ?_
       rintro e3 wz ⟨rfl, rfl⟩
       have HDN : Hid (dcm s z s.size (wdN V) = (n : Nat)) := by have h1 := HP.out.nm; rw [HZ.out] at h1; exact h1
       rw [HDN.out]
       obtain ⟨w5, hw5⟩ : ∃ w5, w5 = w4.alloc (.cells (pfC pv0) 117) := ⟨_, rfl⟩
       have l5 : Below w4.heap.size w4 w5 := by rw [hw5]; exact (Below.refl _ _).alloc (Nat.le_refl _) _
       have a5 := pfx_new w4 pv0
       rw [← hw5] at a5
       obtain ⟨E, hE⟩ : ∃ E, w4.heap.size = E := ⟨_, rfl⟩
       rw [hE] at a5
       have HOE : Hid (w4.heap.size = E) := hE
       have HW5 : Hid (w4.alloc (.cells (pfC pv0) 117) = w5) := hw5.symm
       have H5 : Hid (PfxAt w5 I pv0 ∧ PfxAt w5 E pv0 ∧ Below w.heap.size w w5 ∧ I < E) := ⟨H4.out.1.below l5, a5, bthen H4.out.2.2 l5, by rw [← hE]; exact H4.out.1.lt⟩
       clear hw5 l5 a5 hE
       go_wp2_with (first | (refine wpList_load_ipr (.tmp 6) rfl D V x rfl H4.out.2.1 rfl ?_) | (refine wpList_pfx2 (.tmp 95) (.tmp 96) rfl V x (n : Nat) rfl rfl rfl ?_) | (refine wpList_alloc_pfx rfl rfl ?_; rw [HW5.out, HOE.out]) | (refine wpList_store_pfx (.tmp 13) (.tmp 97) rfl rfl E pv0 ⟨V, x, (n : Nat)⟩ rfl rfl H5.out.2.1 rfl ?_))
       intro w6 h6 k6
       have H6 : Hid (PfxAt w6 I pv0 ∧ PfxAt w6 E ⟨V, x, (n : Nat)⟩ ∧ Below w.heap.size w w6) := ⟨H5.out.1.ch k6 (by have := H5.out.2.2.2; omega), h6, H5.out.2.2.1.trans (k6.below (fun q hq => by have h1 := H5.out.2.2.2; have h2 := HOI.out; omega) H5.out.2.2.1.size)⟩
       clear h6 k6
       go_wp2_with (first | (refine wpList_load_pfx (.tmp 13) rfl E ⟨V, x, (n : Nat)⟩ rfl H6.out.2.1 rfl ?_))
       refine (validPrefixR_any ⟨V, x, (n : Nat)⟩ w6 HP.out.xb).mono ?_
       rintro e3 w7 ⟨rfl, b7⟩
       rw [HP.out.vp]
       have H7 : Hid (PfxAt w7 I pv0 ∧ PfxAt w7 E ⟨V, x, (n : Nat)⟩ ∧ Below w.heap.size w w7) := ⟨H6.out.1.below b7, H6.out.2.1.below b7, bthen H6.out.2.2 b7⟩
       clear b7
       go_wp2_with (first | (refine wpList_load_pfx (.tmp 13) rfl E ⟨V, x, (n : Nat)⟩ rfl H7.out.2.1 rfl ?_) | (refine wpList_store_pfx (.tmp 2) (.tmp 102) rfl rfl I pv0 ⟨V, x, (n : Nat)⟩ rfl rfl H7.out.1 rfl ?_))
       intro w8 h8 k8
       have H8 : Hid (PfxAt w8 I ⟨V, x, (n : Nat)⟩ ∧ Below w.heap.size w w8) := ⟨h8, H7.out.2.2.trans (k8.below (fun q hq => by have h2 := HOI.out; omega) H7.out.2.2.size)⟩
       clear h8 k8
       go_wp2_with fail
       refine bodyPost_ret (results_pf3 rfl _ _ I _ rfl H8.out.1) rfl ?_
       exact ⟨rfl, H8.out.2⟩
end Go.Proofs.YtclpeepnngegaaaGreatDoor
namespace Go.Proofs.YtclpeepnngegaaaGreatDoor
open Go.RowKit Go.Maps
set_option maxHeartbeats 1600000 in
set_option maxRecDepth 100000 in
theorem of_right {s : ByteArray} {k : Nat} {V : Int} {x : Nat → Nat} {n : Nat} (h : PfOk s k V x n) (U : Int) (y : Nat → Nat) (w : World) (hy : ∀ i, i < 16 → y i < 256) : Calls Tryz.prog 46 #[.string s, .agg (ipCells U y)] w fun r w' => r = .returned (.bool (cnR ⟨V, x, (n : Nat)⟩ U y)) ∧ Below w.heap.size w w' := by
 have HP : Hid (PfOk s k V x n) := h
 have HY : Hid (∀ i, i < 16 → y i < 256) := hy
 clear h hy
 obtain ⟨W, B, HSZX, HOX, HLX, HWX, hb⟩ := zBx w (ipCells U y) 24
 have HBX : Hid (IprAt W B U y) := hb
 obtain ⟨CX, hC⟩ : ∃ C, C = ipCells U y := ⟨_, rfl⟩
 rw [← hC] at HWX ⊢
 clear hb hC
 go_enter Tryz.func46, Tryz.ntmps46
 go_wp2_with (rw [HOX.out, HWX.out])
 refine (prefix_right HP.out W).mono ?_
 rintro e1 w1 ⟨rfl, b1⟩
 have H1 : Hid (IprAt w1 B U y ∧ Below w.heap.size w w1) := ⟨HBX.out.below b1, bthen HLX.out b1⟩
 clear b1
 obtain ⟨w2, hw2⟩ : ∃ w2, w2 = w1.alloc (.cells (pfC pv0) 117) := ⟨_, rfl⟩
 have l2 : Below w1.heap.size w1 w2 := by rw [hw2]; exact (Below.refl _ _).alloc (Nat.le_refl _) _
 have a2 := pfx_new w1 pv0
 rw [← hw2] at a2
 obtain ⟨D, hD⟩ : ∃ D, w1.heap.size = D := ⟨_, rfl⟩
 rw [hD] at a2
 have HOD : Hid (w1.heap.size = D) := hD
 have HW2 : Hid (w1.alloc (.cells (pfC pv0) 117) = w2) := hw2.symm
 have H2 : Hid (IprAt w2 B U y ∧ PfxAt w2 D pv0 ∧ Below w.heap.size w w2 ∧ B < D) := ⟨H1.out.1.below l2, a2, bthen H1.out.2 l2, by rw [← hD]; exact H1.out.1.lt⟩
 clear hw2 l2 a2 hD
 go_wp2_with (first | (refine wpList_alloc_pfx rfl rfl ?_; rw [HW2.out, HOD.out]) | (refine wpList_store_pfx (.tmp 5) (.tmp 11) rfl rfl D pv0 ⟨V, x, (n : Nat)⟩ rfl rfl H2.out.2.1 rfl ?_))
 intro w3 h3 k3
 have H3 : Hid (IprAt w3 B U y ∧ PfxAt w3 D ⟨V, x, (n : Nat)⟩ ∧ Below w.heap.size w w3) := ⟨H2.out.1.ch k3 (by have := H2.out.2.2.2; omega), h3, H2.out.2.2.1.trans (k3.below (fun q hq => by have h1 := H2.out.2.2.2; have h2 := HOX.out; omega) H2.out.2.2.1.size)⟩
 clear h3 k3
 go_wp2_with (first | (refine wpList_load_pfx (.tmp 5) rfl D ⟨V, x, (n : Nat)⟩ rfl H3.out.2.1 rfl ?_) | (refine wpList_load_ipr (.tmp 3) rfl B U y rfl H3.out.1 rfl ?_))
 refine (containsR_any ⟨V, x, (n : Nat)⟩ U y w3 HP.out.xb HY.out).mono ?_
 rintro e1 w4 ⟨rfl, b4⟩
 have H4 : Hid (Below w.heap.size w w4) := bthen H3.out.2.2 b4
 clear b4
 go_wp2_with fail
 go_ret
 exact ⟨rfl, H4.out⟩
def bt (L : List Nat) : Nat → Nat := fun i => L.getD i 0
theorem nodot {s : ByteArray} (h : ((List.range s.size).all fun i => sB s i != 46) = true) : ∀ i, sB s i ≠ 46 := by
 intro i
 by_cases hi : i < s.size
 · have := List.all_eq_true.1 h i (List.mem_range.2 hi)
   simpa using this
 · have : sB s i = 0 := by
    unfold sB
    have h2 : ¬ i < s.data.toList.length := hi
    rw [List.getD_eq_getElem?_getD, List.getElem?_eq_none (by omega)]
    rfl
   omega
def ckP (s : ByteArray) (k : Nat) (V : Int) (L : List Nat) (n : Nat) : Bool := decide (s.size ≤ 49) && decide (k + 1 < s.size) && ((List.range k).all fun i => sB s i != 47) && sB s k == 47 && ((List.range 16).all fun i => decide (bt L i < 256)) && ((List.range (s.size - (k + 1))).all fun i => dgB (sB s (k + 1 + i))) && decide (dcm s (k + 1) s.size (wdN V) = (n : Nat)) && vpR ⟨V, bt L, (n : Nat)⟩ == 0
theorem ckP_ok {s u : ByteArray} {k : Nat} {V : Int} {L : List Nat} {n : Nat} (h : ckP s k V L n = true) (hu : s.extract 0 k = u) (hip : ∀ w, Calls Tryz.prog 82 #[.string u] w fun r w' => r = .returned (.tuple #[.agg (ipCells V (bt L)), .int .i64 0, .int .i64 0]) ∧ Below w.heap.size w w') : PfOk s k V (bt L) n := by
 unfold ckP at h
 simp only [Bool.and_eq_true, decide_eq_true_eq, beq_iff_eq, List.all_eq_true, List.mem_range, bne_iff_ne] at h
 obtain ⟨⟨⟨⟨⟨⟨⟨h1, h2⟩, h3⟩, h4⟩, h5⟩, h6⟩, h7⟩, h8⟩ := h
 exact ⟨h1, h2, h3, h4, by rw [hu]; exact hip, h5, h6, h7, h8⟩
theorem pf4 {s : ByteArray} (u : ByteArray) {k : Nat} {L : List Nat} {n : Nat} (h : ckP s k 4 L n = true) (hu : s.extract 0 k = u) (hl : L.length = 4) (h1 : (decide (u.size ≤ 45) && !hsB u 58) = true) (hd : dtd u 4 0 [] = .inl L) : PfOk s k 4 (bt L) n := by
 simp at h1
 refine ckP_ok h hu (fun w => (parse4_right u L w h1.1 h1.2 hl hd).mono ?_)
 rintro r w' ⟨hr, b⟩
 refine ⟨?_, b⟩
 have e : ipCells 4 (pre L 4) = ipCells 4 (bt L) := by
  have : pre L 4 = bt L := by
   funext j
   unfold pre bt
   by_cases hj : j < 4
   · rw [if_pos hj]
   · rw [if_neg hj, List.getD_eq_getElem?_getD, List.getElem?_eq_none (by omega)]; rfl
  rw [this]
 rw [hr, e]
theorem pf6 {s : ByteArray} (u : ByteArray) {k : Nat} {L : List Nat} {n : Nat} (h : ckP s k 6 L n = true) (hu : s.extract 0 k = u) (h1 : (decide (u.size ≤ 45) && hsB u 58 && ((List.range u.size).all fun i => sB u i != 46) && (sxL u).er == 0 && !(decide ((sxL u).gap < 0) && decide ((sxL u).g.length < 8))) = true) (he : ipCells 6 (fil (sxL u) (sxL u).g.length) = ipCells 6 (bt L)) : PfOk s k 6 (bt L) n := by
 simp only [Bool.and_eq_true] at h1
 obtain ⟨⟨⟨⟨a1, a2⟩, a3⟩, a4⟩, a5⟩ := h1
 refine ckP_ok h hu (fun w => (parse6_right u w (by simpa using a1) a2 (nodot a3) (by simpa using a4) ((Bool.not_eq_true' _).mp a5)).mono ?_)
 rintro r w' ⟨hr, b⟩
 exact ⟨by rw [hr, he], b⟩
theorem tx4_0 : PfOk ⟨#[48, 46, 48, 46, 48, 46, 48, 47, 51, 50]⟩ 7 4 (bt [0, 0, 0, 0]) 32 := pf4 ⟨#[48, 46, 48, 46, 48, 46, 48]⟩ (by decide +kernel) (by kernel_rfl) rfl (by decide +kernel) (by kernel_rfl)
theorem tx4_1 : PfOk ⟨#[49, 50, 55, 46, 48, 46, 48, 46, 48, 47, 56]⟩ 9 4 (bt [127, 0, 0, 0]) 8 := pf4 ⟨#[49, 50, 55, 46, 48, 46, 48, 46, 48]⟩ (by decide +kernel) (by kernel_rfl) rfl (by decide +kernel) (by kernel_rfl)
theorem tx4_2 : PfOk ⟨#[50, 50, 52, 46, 48, 46, 48, 46, 48, 47, 52]⟩ 9 4 (bt [224, 0, 0, 0]) 4 := pf4 ⟨#[50, 50, 52, 46, 48, 46, 48, 46, 48]⟩ (by decide +kernel) (by kernel_rfl) rfl (by decide +kernel) (by kernel_rfl)
theorem tx4_3 : PfOk ⟨#[49, 54, 57, 46, 50, 53, 52, 46, 48, 46, 48, 47, 49, 54]⟩ 11 4 (bt [169, 254, 0, 0]) 16 := pf4 ⟨#[49, 54, 57, 46, 50, 53, 52, 46, 48, 46, 48]⟩ (by decide +kernel) (by kernel_rfl) rfl (by decide +kernel) (by kernel_rfl)
theorem tx4_4 : PfOk ⟨#[50, 53, 53, 46, 50, 53, 53, 46, 50, 53, 53, 46, 50, 53, 53, 47, 51, 50]⟩ 15 4 (bt [255, 255, 255, 255]) 32 := pf4 ⟨#[50, 53, 53, 46, 50, 53, 53, 46, 50, 53, 53, 46, 50, 53, 53]⟩ (by decide +kernel) (by kernel_rfl) rfl (by decide +kernel) (by kernel_rfl)
theorem tx4_5 : PfOk ⟨#[48, 46, 48, 46, 48, 46, 48, 47, 56]⟩ 7 4 (bt [0, 0, 0, 0]) 8 := pf4 ⟨#[48, 46, 48, 46, 48, 46, 48]⟩ (by decide +kernel) (by kernel_rfl) rfl (by decide +kernel) (by kernel_rfl)
theorem tx4_6 : PfOk ⟨#[50, 52, 48, 46, 48, 46, 48, 46, 48, 47, 52]⟩ 9 4 (bt [240, 0, 0, 0]) 4 := pf4 ⟨#[50, 52, 48, 46, 48, 46, 48, 46, 48]⟩ (by decide +kernel) (by kernel_rfl) rfl (by decide +kernel) (by kernel_rfl)
theorem tx6_0 : PfOk ⟨#[58, 58, 47, 49, 50, 56]⟩ 2 6 (bt [0, 0, 0, 0, 0, 0, 0, 0, 0, 0, 0, 0, 0, 0, 0, 0]) 128 := pf6 ⟨#[58, 58]⟩ (by decide +kernel) (by kernel_rfl) (by decide +kernel) (by kernel_rfl)
theorem tx6_1 : PfOk ⟨#[58, 58, 49, 47, 49, 50, 56]⟩ 3 6 (bt [0, 0, 0, 0, 0, 0, 0, 0, 0, 0, 0, 0, 0, 0, 0, 1]) 128 := pf6 ⟨#[58, 58, 49]⟩ (by decide +kernel) (by kernel_rfl) (by decide +kernel) (by kernel_rfl)
theorem tx6_2 : PfOk ⟨#[102, 102, 48, 48, 58, 58, 47, 56]⟩ 6 6 (bt [255, 0, 0, 0, 0, 0, 0, 0, 0, 0, 0, 0, 0, 0, 0, 0]) 8 := pf6 ⟨#[102, 102, 48, 48, 58, 58]⟩ (by decide +kernel) (by kernel_rfl) (by decide +kernel) (by kernel_rfl)
theorem tx6_3 : PfOk ⟨#[102, 101, 56, 48, 58, 58, 47, 49, 48]⟩ 6 6 (bt [254, 128, 0, 0, 0, 0, 0, 0, 0, 0, 0, 0, 0, 0, 0, 0]) 10 := pf6 ⟨#[102, 101, 56, 48, 58, 58]⟩ (by decide +kernel) (by kernel_rfl) (by decide +kernel) (by kernel_rfl)
theorem tx6_4 : PfOk ⟨#[58, 58, 47, 56]⟩ 2 6 (bt [0, 0, 0, 0, 0, 0, 0, 0, 0, 0, 0, 0, 0, 0, 0, 0]) 8 := pf6 ⟨#[58, 58]⟩ (by decide +kernel) (by kernel_rfl) (by decide +kernel) (by kernel_rfl)
end Go.Proofs.YtclpeepnngegaaaGreatDoor
