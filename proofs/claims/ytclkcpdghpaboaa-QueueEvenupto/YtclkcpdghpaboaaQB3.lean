/-
  Layer 18: the book behind a Push.
-/
import Derived.Test.YtclkcpdghpaboaaQB2
namespace Go.Proofs.Ytclkcpdghpaboaa
open Go.RowKit Go.ChangeShapes Go.WideShapes

theorem yields_bks {ops : Array Oper} {o : Oper} {a : Act} {S : World → Prop} (x : Operand) (ho : o.op = .load 38 x) (p : Addr) (u : Value) (hx : a.eval x = .pointer (some p)) (hw : Region.wanted o (yielded ops a.tmps) = true) (hS : ∀ w, S w → w.cell? p = some u) : YieldsIf Try.prog ops S o u a := by
  refine .inl ⟨hw, fun w hb => ?_⟩
  have hc := hS w hb
  have hu := Try.underlying38
  obtain ⟨dst, op, type, pos, after, guard⟩ := o
  simp only at ho
  subst ho
  simp only [execOp, Sem.run_bind, Sem.run_pure]
  rw [hx]
  go_simp
theorem yields_bki {ops : Array Oper} {o : Oper} {a : Act} {S : World → Prop} (x : Operand) (ho : o.op = .load 37 x) (p : Addr) (u : Value) (hx : a.eval x = .pointer (some p)) (hw : Region.wanted o (yielded ops a.tmps) = true) (hS : ∀ w, S w → w.cell? p = some u) : YieldsIf Try.prog ops S o u a := by
  refine .inl ⟨hw, fun w hb => ?_⟩
  have hc := hS w hb
  have hu := Try.underlying37
  obtain ⟨dst, op, type, pos, after, guard⟩ := o
  simp only at ho
  subst ho
  simp only [execOp, Sem.run_bind, Sem.run_pure]
  rw [hx]
  go_simp
theorem yields_bkn {ops : Array Oper} {o : Oper} {a : Act} {S : World → Prop} (x : Operand) (ho : o.op = .load 23 x) (p : Addr) (u : Value) (hx : a.eval x = .pointer (some p)) (hw : Region.wanted o (yielded ops a.tmps) = true) (hS : ∀ w, S w → w.cell? p = some u) : YieldsIf Try.prog ops S o u a := by
  refine .inl ⟨hw, fun w hb => ?_⟩
  have hc := hS w hb
  have hu := Try.underlying23
  obtain ⟨dst, op, type, pos, after, guard⟩ := o
  simp only at ho
  subst ho
  simp only [execOp, Sem.run_bind, Sem.run_pure]
  rw [hx]
  go_simp
theorem wpList_box_lmb {ops : Array Oper} {rest : List Oper} {o : Oper} {a : Act} {w : World} {Q : Exit → Act → World → Prop} (x : Operand) (ho : o.op = .box 36 x) (lv : LI) (hx : a.eval x = .agg (liA lv)) (hw : Region.wanted o (yielded ops a.tmps) = true)
    (h : ∀ B W, Hid (w.heap.size = B ∧ W.heap.size = B + 1) → LimAt W B lv → Below w.heap.size w W → wpList Try.prog ops Q rest (a.put o.dst (.pointer (some ⟨B, 0, none⟩))) W) : wpList Try.prog ops Q (o :: rest) a w := by
  refine wpList_step fun K hK => ?_
  rw [if_pos hw]
  have hrun : (execOp a.eval o).run Try.prog w = .ok (.value (.pointer (some ⟨w.heap.size, 0, none⟩))) (w.alloc (.cells (liA lv) 36)) := by
    obtain ⟨dst, op, type, pos, after, guard⟩ := o
    simp only at ho
    subst ho
    simp only [execOp, hx]
    go_simp
  unfold Oper.wp
  rw [hrun]
  exact hK _ _ (h _ _ ⟨rfl, World.size_alloc _ _⟩ (lim_new _ _) ((Below.refl _ _).alloc (Nat.le_refl _) _))
theorem wpList_nil_lmb {ops : Array Oper} {rest : List Oper} {o : Oper} {a : Act} {w : World} {Q : Exit → Act → World → Prop} (ho : o.op = .alloc 36) (hw : Region.wanted o (yielded ops a.tmps) = true)
    (h : ∀ B W, Hid (w.heap.size = B ∧ W.heap.size = B + 1) → LimAt W B lz → Below w.heap.size w W → wpList Try.prog ops Q rest (a.put o.dst (.pointer (some ⟨B, 0, none⟩))) W) : wpList Try.prog ops Q (o :: rest) a w :=
  wpList_alloc_lim ho hw (h _ _ ⟨rfl, World.size_alloc _ _⟩ (lim_new _ _) ((Below.refl _ _).alloc (Nat.le_refl _) _))

theorem flat_set1 {α : Type} {cells : α → List Value} (h1 : ∀ m, (cells m).length = 1) {L : List α} {i : Nat} {m' : α} {u : Value} (hu : cells m' = [u]) (hi : i < L.length) : (L.set i m').flatMap cells = (L.flatMap cells).set i u := by
  induction L generalizing i with
  | nil => simp at hi
  | cons x L ih =>
    obtain ⟨y, hy⟩ : ∃ y, cells x = [y] := List.length_eq_one_iff.1 (h1 x)
    cases i with
    | zero => simp [List.flatMap_cons, hu, hy]
    | succ i =>
      simp only [List.length_cons] at hi
      rw [List.set_cons_succ, List.flatMap_cons, List.flatMap_cons, ih (by omega), hy]
      rfl
theorem GL.set1 {α : Type} {cells : α → List Value} {e : TypeId} {w : World} {base g n cap : Nat} {L : List α} (h : GL 1 cells e w base (.slice (some ⟨g, 0, none⟩) n cap) L) (h1 : ∀ m, (cells m).length = 1) {i : Nat} {m' : α} {u : Value} (hu : cells m' = [u]) (hi : i < L.length) : GL 1 cells e (w.setCell ⟨g, i, none⟩ u) base (.slice (some ⟨g, 0, none⟩) n cap) (L.set i m') := by
  have hn := h.len
  subst hn
  unfold GL at h ⊢
  rw [flat_set1 h1 hu hi, List.length_set]
  exact (h.stored i u).1
theorem GL.cell1 {α : Type} {cells : α → List Value} {e : TypeId} {w : World} {base g n cap : Nat} {L : List α} (h : GL 1 cells e w base (.slice (some ⟨g, 0, none⟩) n cap) L) (h1 : ∀ m, (cells m).length = 1) {i : Nat} {m : α} {u : Value} (hi : L[i]? = some m) (hu : cells m = [u]) : w.cell? ⟨g, i, none⟩ = some u := by
  have := h.range h1 i m hi 0 u (by rw [hu]; rfl)
  simpa using this
theorem run_bib (x0 x1 : Int) (w : World) : (Instr.build 56 #[(0, .int .i64 x0), (1, .int .i64 x1)]).run Try.prog w = .ok (.agg (biA (x1, x0))) w := by kernel_rfl
theorem yields_bib {ops : Array Oper} {o : Oper} {a : Act} {S : World → Prop} (y0 y1 : Operand) (ho : o.op = .build 56 #[(0, y0), (1, y1)]) (x0 x1 : Int) (h0 : a.eval y0 = .int .i64 x0) (h1 : a.eval y1 = .int .i64 x1) (hw : Region.wanted o (yielded ops a.tmps) = true) : YieldsIf Try.prog ops S o (.agg (biA (x1, x0))) a := by
  refine .inl ⟨hw, fun w _ => ?_⟩
  obtain ⟨dst, op, type, pos, after, guard⟩ := o
  simp only at ho
  subst ho
  simp only [execOp, Sem.run_bind, List.map_toArray, List.map_cons, List.map_nil, h0, h1, run_bib x0 x1 w, Result.andThen_ok]
  rfl
theorem run_bs1k (x : Int × Int) (w : World) : (Instr.buildSlice 37 1 #[(0, .agg (biA x))]).run Try.prog w = .ok (.slice (some ⟨w.heap.size, 0, none⟩) 1 1) (w.alloc (.cells (biA x) 56)) := by kernel_rfl
theorem wpList_bs1k {ops : Array Oper} {rest : List Oper} {o : Oper} {a : Act} {w : World} {Q : Exit → Act → World → Prop} (y : Operand) (ho : o.op = .buildSlice 37 1 #[(0, y)]) (x : Int × Int) (hx : a.eval y = .agg (biA x)) (hw : Region.wanted o (yielded ops a.tmps) = true)
    (h : ∀ B W, Hid (w.heap.size = B ∧ W.heap.size = B + 1) → W.rangeAt B 0 (biL x) → Below w.heap.size w W → wpList Try.prog ops Q rest (a.put o.dst (.slice (some ⟨B, 0, none⟩) 1 1)) W) : wpList Try.prog ops Q (o :: rest) a w := by
  refine wpList_step fun K hK => ?_
  rw [if_pos hw]
  unfold Oper.wp execOp
  simp only [ho, Sem.run_bind, List.map_toArray, List.map_cons, List.map_nil, hx, run_bs1k x w, Result.andThen_ok]
  refine hK _ _ (h _ _ ⟨rfl, World.size_alloc _ _⟩ (fun j u hj => ?_) ((Below.refl _ _).alloc (Nat.le_refl _) _))
  rw [World.cell?_alloc_at _ _ _ _ rfl, Nat.zero_add]
  simpa [biL] using hj
/-- the book tells of the queue what it holds -/
structure Ag (ms : List BM) (cs : List CL) : Prop where
  len : ms.length = cs.length
  at' : ∀ (i : Nat) (m : BM), ms[i]? = some m → m.M = (cAt cs i).L ∧ m.b = szL (cAt cs i).L
theorem Ag.set {ms : List BM} {cs : List CL} {i : Nat} {m : BM} {c : CL} (h : Ag ms cs) (hi : i < cs.length) (hM : m.M = c.L) (hb : m.b = szL c.L) : Ag (ms.set i m) (cs.set i c) := by
  refine ⟨by rw [List.length_set, List.length_set, h.len], fun j x hx => ?_⟩
  by_cases e : j = i
  · subst e
    rw [List.getElem?_set_self (by rw [h.len]; exact hi), Option.some.injEq] at hx
    subst hx
    rw [cAt_set_same hi]
    exact ⟨hM, hb⟩
  · rw [List.getElem?_set_ne (fun x => e x.symm)] at hx
    rw [cAt_set_ne e]
    exact h.at' j x hx
theorem map_set_s {ms : List BM} {i : Nat} {m m' : BM} (hi : ms[i]? = some m) (hs : m'.s = m.s) : (ms.set i m').map BM.s = ms.map BM.s := by
  rw [List.map_set, hs]
  apply List.ext_getElem?
  intro j
  by_cases e : i = j
  · subst e
    have hl := (List.getElem?_eq_some_iff.1 hi).1
    rw [List.getElem?_set_self (by rw [List.length_map]; exact hl), List.getElem?_map, hi]
    rfl
  · rw [List.getElem?_set_ne e]
set_option maxHeartbeats 6400000 in
set_option maxRecDepth 100000 in
theorem pushed_any (N B : Nat) (lv bv sv : Value) (ms : List BM) (cs : List CL) (t : TN) (w : World) (hk : BK N w B lv bv sv ms) (hq : QOk cs t) (hag : Ag ms cs) (a : Option Addr) (n c : Nat) (hL : ListG 5 liL LiW w a (cs.map CL.li)) (hn : cs.length = n) (kd oc os oi e : Int) (tw : Bool) (he : e = pushE cs oc os) : Calls Try.prog 19 #[.pointer (some ⟨B, 0, none⟩), .slice a n c, .agg (opC ⟨kd, tw, oc, os, oi⟩), .int .i64 e] w fun r w' => r = .returned (.bool true) ∧ ∃ ms', BK N w' B lv bv sv ms' ∧ Ag ms' (pushCs cs oc os oi) ∧ ms'.map BM.s = ms.map BM.s ∧ Ch (BB B lv bv sv ms) w w' := by
  have HQ : Hid (BK N w B lv bv sv ms ∧ QOk cs t ∧ Ag ms cs ∧ ListG 5 liL LiW w a (cs.map CL.li) ∧ cs.length = n ∧ e = pushE cs oc os) := ⟨hk, hq, hag, hL, hn, he⟩
  have hn8 : n ≤ 8 := by rw [← hn]; exact hq.len.2
  clear hk hq hag hL hn he
  have hb := opv_new w ⟨kd, tw, oc, os, oi⟩
  have bel : Below w.heap.size w (w.alloc (.cells (opC ⟨kd, tw, oc, os, oi⟩) 43)) := (Below.refl _ _).alloc (Nat.le_refl _) _
  obtain ⟨CX, hC⟩ : ∃ C, C = opC ⟨kd, tw, oc, os, oi⟩ := ⟨_, rfl⟩
  obtain ⟨W, hW⟩ : ∃ W_, W_ = w.alloc (.cells (opC ⟨kd, tw, oc, os, oi⟩) 43) := ⟨_, rfl⟩
  rw [← hW] at hb bel
  have HSZX : Hid (W.heap.size = w.heap.size + 1) := by show _ = _; rw [hW, World.size_alloc]
  obtain ⟨O6, hB⟩ : ∃ B, B = w.heap.size := ⟨_, rfl⟩
  rw [← hB] at hb
  have HBX : Hid (OpvAt W O6 ⟨kd, tw, oc, os, oi⟩) := hb
  rw [← hC] at hW ⊢
  have HOX : Hid (w.heap.size = O6) := hB.symm
  have HLX : Hid (Below w.heap.size w W) := bel
  have HWX : Hid (w.alloc (.cells CX 43) = W) := hW.symm
  clear hb hW hB hC bel

  have HZ : Hid (BK N W B lv bv sv ms ∧ ListG 5 liL LiW W a (cs.map CL.li)) := ⟨HQ.out.1.below HLX.out, HQ.out.2.2.2.1.old HLX.out⟩
  have c2 : W.cell? ⟨O6, 2, none⟩ = some (.int .i64 oc) := HBX.out.cell 2
  have c3 : W.cell? ⟨O6, 3, none⟩ = some (.int .i64 os) := HBX.out.cell 3
  go_enter Try.func19, Try.ntmps19
  go_upto_region 1 with fail
  rw [HOX.out, HWX.out]
  by_cases h0 : oc < 0
  · have q1 : decide (oc < 0) = true := decide_eq_true h0
    have HE : Hid (e = 181) := by show _ = _; rw [HQ.out.2.2.2.2.2]; unfold pushE; rw [if_neg (by omega)]
    have HU : Hid (pushCs cs oc os oi = cs) := by show _ = _; unfold pushCs; rw [if_neg (by rw [← HQ.out.2.2.2.2.2, HE.out]; decide)]
    have qe : (e == 181) = true := by rw [HE.out]; rfl
    clear h0
    go_wp2_with fail
    go_ret
    exact ⟨rfl, ms, HZ.out.1, by rw [HU.out]; exact HQ.out.2.2.1, rfl, Ch.ofBelow HLX.out⟩
  · have q1 : decide (oc < 0) = false := decide_eq_false h0
    obtain ⟨i, rfl⟩ : ∃ i : Nat, oc = (i : Int) := ⟨oc.toNat, by omega⟩
    clear h0
    by_cases h1 : i < n
    · have q2 : decide ((n : Int) ≤ (i : Int)) = false := decide_eq_false (by omega)
      have q3 : decide (n ≤ i) = false := decide_eq_false (by omega)
      have k0 : (0 : Int) ≤ (i : Int) := by omega
      have k1 : (i : Int) < (n : Int) := by omega
      have k2 : ((i : Int)).toNat = i := by omega
      have HIN : Hid (i < n) := h1
      clear h1
      go_upto_region 3 with fail
      by_cases h2 : os < 1
      · have r1 : decide (os < 1) = true := decide_eq_true h2
        have HE : Hid (e = 182) := by show _ = _; rw [HQ.out.2.2.2.2.2]; unfold pushE; rw [if_pos (by rw [HQ.out.2.2.2.2.1]; omega), if_neg (by omega)]
        have HU : Hid (pushCs cs (i : Int) os oi = cs) := by show _ = _; unfold pushCs; rw [if_neg (by rw [← HQ.out.2.2.2.2.2, HE.out]; decide)]
        have qe : (e == 182) = true := by rw [HE.out]; rfl
        clear h2
        go_wp2_with fail
        go_ret
        exact ⟨rfl, ms, HZ.out.1, by rw [HU.out]; exact HQ.out.2.2.1, rfl, Ch.ofBelow HLX.out⟩
      · have r1 : decide (os < 1) = false := decide_eq_false h2
        by_cases h3 : 65535 < os
        · have r2 : decide (65535 < os) = true := decide_eq_true h3
          have HE : Hid (e = 182) := by show _ = _; rw [HQ.out.2.2.2.2.2]; unfold pushE; rw [if_pos (by rw [HQ.out.2.2.2.2.1]; omega), if_neg (by omega)]
          have HU : Hid (pushCs cs (i : Int) os oi = cs) := by show _ = _; unfold pushCs; rw [if_neg (by rw [← HQ.out.2.2.2.2.2, HE.out]; decide)]
          have qe : (e == 182) = true := by rw [HE.out]; rfl
          clear h2 h3
          go_wp2_with fail
          go_ret
          exact ⟨rfl, ms, HZ.out.1, by rw [HU.out]; exact HQ.out.2.2.1, rfl, Ch.ofBelow HLX.out⟩
        · have r2 : decide (65535 < os) = false := decide_eq_false h3
          have HOS : Hid (1 ≤ os ∧ os ≤ 65535) := ⟨by omega, by omega⟩
          clear h2 h3
          go_upto_region 5 with fail
          have hic : i < cs.length := by rw [HQ.out.2.2.2.2.1]; exact HIN.out
          obtain ⟨l, hl⟩ : ∃ l, (cAt cs i).li = l := ⟨_, rfl⟩
          obtain ⟨hlw, ab, off, ha, hlt, hlc⟩ := HZ.out.2.at i l (by rw [List.getElem?_map, cAt_get hic, ← hl]; rfl)
          subst ha
          have HRA : Hid (W.rangeAt ab (off + i * 5) (liA l).toList) := fun j v hj => by
            have hj' : j < 5 := (List.getElem?_eq_some_iff.1 hj).1
            rw [hlc j hj']
            exact hj
          obtain ⟨m, hm⟩ : ∃ m, ms[i]? = some m := ⟨_, List.getElem?_eq_getElem (by rw [HQ.out.2.2.1.len]; exact hic)⟩
          have hmln : ms.length = n := by rw [HQ.out.2.2.1.len]; exact HQ.out.2.2.2.2.1
          obtain ⟨gl, cl, hlv, _, _, _⟩ := HZ.out.1.l.at bmV_len i m hm
          obtain ⟨gb, cb, hbv, _, _, _⟩ := HZ.out.1.by'.at bmB_len i m hm
          rw [hmln] at hlv hbv
          subst hlv hbv
          obtain ⟨ma, hma⟩ : ∃ x, m.a = x := ⟨_, rfl⟩
          obtain ⟨mc, hmc⟩ : ∃ x, m.c = x := ⟨_, rfl⟩
          obtain ⟨ml, hml⟩ : ∃ x, m.M.length = x := ⟨_, rfl⟩
          obtain ⟨mb, hmb⟩ : ∃ x, m.b = x := ⟨_, rfl⟩
          have HM : Hid (ms[i]? = some m ∧ m.v = .slice ma ml mc ∧ (m.M.length = ml ∧ m.b = mb) ∧ m = ⟨ma, mc, m.M, mb, m.s⟩ ∧ m.M.length = ml) := ⟨hm, by unfold BM.v; rw [hma, hmc, hml], ⟨hml, hmb⟩, by rw [← hma, ← hmc, ← hmb], hml⟩
          have hco := HQ.out.2.1.c hic
          have hag := HQ.out.2.2.1.at' i m hm
          have HLE : Hid ((ml : Int) = (cAt cs i).L.length ∧ mb = szL (cAt cs i).L ∧ (cAt cs i).li = l) := ⟨by rw [← hml, hag.1], by rw [← hmb, hag.2], hl⟩
          have hml4 : ml ≤ 4096 := by have h1 := hco.len; have h2 := hco.li.it.2; have h3 := HLE.out.1; omega
          have hmbB : 0 ≤ mb + os + 1 ∧ mb + os ≤ 70000000 := by
            have h1 := hco.sz
            have h2 := hco.li.by'.2
            have h3 := HLE.out.2.1
            have h4 := HOS.out
            have h5 : 0 ≤ szL (cAt cs i).L := szL_nn hco.el
            omega
          have HML : Hid (ml ≤ 4096) := hml4
          have wm : IntKind.i64.wrap (mb + os) = mb + os := i64_s _ (by omega) (by omega)
          clear hl hlw hlt hlc hm hmln hma hmc hml hmb hco hag hml4 hmbB hic
          go_upto_region 6 with (first | (refine wpList_mid_lim (.tmp 35) rfl ab (off + i * 5) l rfl HRA.out rfl ?_) | (refine wpList_nil_lmb rfl rfl ?_; intro O9 X9 hB9 hX9 bX9) | (refine wpList_store_lim (.tmp 9) (.tmp 36) rfl rfl O9 lz l rfl rfl hX9 rfl ?_; intro y1 h1 kk1))
          have H9 : Hid (OpvAt y1 O6 ⟨kd, tw, (i : Int), os, oi⟩ ∧ LimAt y1 O9 l ∧ BK N y1 B (.slice (some ⟨gl, 0, none⟩) n cl) (.slice (some ⟨gb, 0, none⟩) n cb) sv ms ∧ Below w.heap.size w y1) := by
            have by1 : Below W.heap.size W y1 := bX9.trans (kk1.below (fun q hq => by have e' : q = O9 := hq; have g1 := hB9.out; omega) bX9.size)
            exact ⟨HBX.out.below by1, h1, HZ.out.1.below by1, bthen HLX.out by1⟩
          clear hB9 hX9 bX9 h1 kk1 c2 c3 HRA
          simp only [Act.put, List.setIfInBounds_toArray, List.set_cons_succ, List.set_cons_zero]
          by_cases g1 : l.it ≤ (ml : Int)
          · have s1 : decide (l.it ≤ (ml : Int)) = true := decide_eq_true g1
            have HE : Hid (e = 183) := by show _ = _; rw [HQ.out.2.2.2.2.2]; unfold pushE; rw [if_pos (by rw [HQ.out.2.2.2.2.1]; omega), if_pos HOS.out, if_neg]; unfold room; rw [Int.toNat_natCast, HLE.out.2.2, ← HLE.out.1]; simp; omega
            have HU : Hid (pushCs cs (i : Int) os oi = cs) := by show _ = _; unfold pushCs; rw [if_neg (by rw [← HQ.out.2.2.2.2.2, HE.out]; decide)]
            have qe : (e == 183) = true := by rw [HE.out]; rfl
            clear g1
            refine MixH.start (fun A => OpvAt A O6 ⟨kd, tw, (i : Int), os, oi⟩ ∧ LimAt A O9 l ∧ BovAt A B (.slice (some ⟨gl, 0, none⟩) n cl) (.slice (some ⟨gb, 0, none⟩) n cb) sv ∧ A.cell? ⟨gl, i, none⟩ = some (.slice ma ml mc) ∧ A.cell? ⟨gb, i, none⟩ = some (.int .i64 mb)) (by kernel_rfl) ?_
            obtain ⟨wA, hwA⟩ : ∃ W_, W_ = y1.drew := ⟨_, rfl⟩
            have bdr : Below y1.heap.size y1 wA := by rw [hwA]; exact (Below.refl _ _).drew
            have hS : OpvAt wA O6 ⟨kd, tw, (i : Int), os, oi⟩ ∧ LimAt wA O9 l ∧ BovAt wA B (.slice (some ⟨gl, 0, none⟩) n cl) (.slice (some ⟨gb, 0, none⟩) n cb) sv ∧ wA.cell? ⟨gl, i, none⟩ = some (.slice ma ml mc) ∧ wA.cell? ⟨gb, i, none⟩ = some (.int .i64 mb) := ⟨H9.out.1.below bdr, H9.out.2.1.below bdr, H9.out.2.2.1.at'.below bdr, (H9.out.2.2.1.below bdr).l.cell1 bmV_len HM.out.1 (by unfold bmV; rw [HM.out.2.1]), (H9.out.2.2.1.below bdr).by'.cell1 bmB_len HM.out.1 (by unfold bmB; rw [HM.out.2.2.1.2])⟩
            have HA : Hid (BK N wA B (.slice (some ⟨gl, 0, none⟩) n cl) (.slice (some ⟨gb, 0, none⟩) n cb) sv ms ∧ OpvAt wA O6 ⟨kd, tw, (i : Int), os, oi⟩ ∧ Below w.heap.size w wA) := ⟨H9.out.2.2.1.below bdr, H9.out.1.below bdr, bthen H9.out.2.2.2 bdr⟩
            rw [← hwA]
            clear hwA bdr
            refine MixH.takes [true, true, true, false, true, false, false, false, false, true] 23 (by kernel_rfl) (by kernel_rfl) (by decide) (by kernel_rfl) hS (fun K hK => ?_)
            simp only [Mix.pick]
            repeat (go_big_quiet_step (fail))
            refine wpQuiet_nil (hK _ ?_)
            clear hK K
            refine MixH.take 22 3 _ (.slice (some ⟨gl, 0, none⟩) n cl) rfl (by kernel_rfl) (by kernel_rfl) (by kernel_rfl) (by kernel_rfl) (yields_bks (.tmp 39) rfl ⟨B, 0, none⟩ (.slice (some ⟨gl, 0, none⟩) n cl) rfl rfl (fun A hA => hA.2.2.1.cell 0)) hS (fun a' ha => ?_)
            simp only [Act.put, List.setIfInBounds_toArray, List.set_cons_succ, List.set_cons_zero] at ha
            subst ha
            refine MixH.take 21 5 _ (.int .i64 (i : Int)) rfl (by kernel_rfl) (by kernel_rfl) (by kernel_rfl) (by kernel_rfl) (yields_int (.tmp 41) rfl ⟨O6, 2, none⟩ (.int .i64 (i : Int)) rfl rfl (fun A hA => hA.1.cell 2)) hS (fun a' ha => ?_)
            simp only [Act.put, List.setIfInBounds_toArray, List.set_cons_succ, List.set_cons_zero] at ha
            subst ha
            refine MixH.takes [false, false, false, false, false, false, true] 20 (by kernel_rfl) (by kernel_rfl) (by decide) (by kernel_rfl) hS (fun K hK => ?_)
            simp only [Mix.pick]
            repeat (go_big_quiet_step (fail))
            refine wpQuiet_nil (hK _ ?_)
            clear hK K
            refine MixH.take 19 7 _ (.slice ma ml mc) rfl (by kernel_rfl) (by kernel_rfl) (by kernel_rfl) (by kernel_rfl) (yields_bki (.tmp 43) rfl ⟨gl, i, none⟩ (.slice ma ml mc) rfl rfl (fun A hA => hA.2.2.2.1)) hS (fun a' ha => ?_)
            simp only [Act.put, List.setIfInBounds_toArray, List.set_cons_succ, List.set_cons_zero] at ha
            subst ha
            refine MixH.takes [false, false, false, false, false, false, false, false, true] 18 (by kernel_rfl) (by kernel_rfl) (by decide) (by kernel_rfl) hS (fun K hK => ?_)
            simp only [Mix.pick]
            repeat (go_big_quiet_step (fail))
            refine wpQuiet_nil (hK _ ?_)
            clear hK K
            refine MixH.take 17 10 _ (.int .i64 l.it) rfl (by kernel_rfl) (by kernel_rfl) (by kernel_rfl) (by kernel_rfl) (yields_int (.tmp 46) rfl ⟨O9, 1, none⟩ (.int .i64 l.it) rfl rfl (fun A hA => hA.2.1.cell 1)) hS (fun a' ha => ?_)
            simp only [Act.put, List.setIfInBounds_toArray, List.set_cons_succ, List.set_cons_zero] at ha
            subst ha
            refine MixH.takes [false, false, false, false, false, false, false, false, false, false, false, true, true, true, true, true, false, true, false, false, false, true, false, false, true] 9 (by kernel_rfl) (by kernel_rfl) (by decide) (by kernel_rfl) hS (fun K hK => ?_)
            simp only [Mix.pick]
            repeat (go_big_quiet_step (fail))
            refine wpQuiet_nil (hK _ ?_)
            clear hK K
            refine MixH.take 8 16 _ (undef) rfl (by kernel_rfl) (by kernel_rfl) (by kernel_rfl) (by kernel_rfl) (.inr ⟨rfl, rfl⟩) hS (fun a' ha => ?_)
            simp only [Act.put, List.setIfInBounds_toArray, List.set_cons_succ, List.set_cons_zero] at ha
            subst ha
            refine MixH.take 7 18 _ (undef) rfl (by kernel_rfl) (by kernel_rfl) (by kernel_rfl) (by kernel_rfl) (.inr ⟨rfl, rfl⟩) hS (fun a' ha => ?_)
            simp only [Act.put, List.setIfInBounds_toArray, List.set_cons_succ, List.set_cons_zero] at ha
            subst ha
            refine MixH.takes [false, false, false, false, false, false, false, false, false, false, false, false, false, false, false, false, false, false, false, true] 6 (by kernel_rfl) (by kernel_rfl) (by decide) (by kernel_rfl) hS (fun K hK => ?_)
            simp only [Mix.pick]
            repeat (go_big_quiet_step (fail))
            refine wpQuiet_nil (hK _ ?_)
            clear hK K
            refine MixH.take 5 20 _ (undef) rfl (by kernel_rfl) (by kernel_rfl) (by kernel_rfl) (by kernel_rfl) (.inr ⟨rfl, rfl⟩) hS (fun a' ha => ?_)
            simp only [Act.put, List.setIfInBounds_toArray, List.set_cons_succ, List.set_cons_zero] at ha
            subst ha
            refine MixH.take 4 22 _ (undef) rfl (by kernel_rfl) (by kernel_rfl) (by kernel_rfl) (by kernel_rfl) (.inr ⟨rfl, rfl⟩) hS (fun a' ha => ?_)
            simp only [Act.put, List.setIfInBounds_toArray, List.set_cons_succ, List.set_cons_zero] at ha
            subst ha
            refine MixH.takes [false, false, false, false, false, false, false, false, false, false, false, false, false, false, false, false, false, false, false, false, false, false, false, true] 3 (by kernel_rfl) (by kernel_rfl) (by decide) (by kernel_rfl) hS (fun K hK => ?_)
            simp only [Mix.pick]
            repeat (go_big_quiet_step (fail))
            refine wpQuiet_nil (hK _ ?_)
            clear hK K
            refine MixH.take 2 25 _ (undef) rfl (by kernel_rfl) (by kernel_rfl) (by kernel_rfl) (by kernel_rfl) (.inr ⟨rfl, rfl⟩) hS (fun a' ha => ?_)
            simp only [Act.put, List.setIfInBounds_toArray, List.set_cons_succ, List.set_cons_zero] at ha
            subst ha
            refine MixH.takes [false, false, false, false, false, false, false, false, false, false, false, false, false, false, false, false, false, false, false, false, false, false, false, false, false, false, true, true] 0 (by kernel_rfl) (by kernel_rfl) (by decide) (by kernel_rfl) hS (fun K hK => ?_)
            simp only [Mix.pick]
            repeat (go_big_quiet_step (fail))
            refine wpQuiet_nil (hK _ ?_)
            clear hK K
            refine MixH.done (by kernel_rfl) ?_
            clear hS
            go_wp2_with fail
            go_ret
            exact ⟨rfl, ms, HA.out.1, by rw [HU.out]; exact HQ.out.2.2.1, rfl, Ch.ofBelow HA.out.2.2⟩
          · have s1 : decide (l.it ≤ (ml : Int)) = false := decide_eq_false g1
            by_cases g2 : l.by' < mb + os
            · have s2 : decide (l.by' < mb + os) = true := decide_eq_true g2
              have HE : Hid (e = 183) := by show _ = _; rw [HQ.out.2.2.2.2.2]; unfold pushE; rw [if_pos (by rw [HQ.out.2.2.2.2.1]; omega), if_pos HOS.out, if_neg]; unfold room; rw [Int.toNat_natCast, HLE.out.2.2, ← HLE.out.1, ← HLE.out.2.1]; simp; omega
              have HU : Hid (pushCs cs (i : Int) os oi = cs) := by show _ = _; unfold pushCs; rw [if_neg (by rw [← HQ.out.2.2.2.2.2, HE.out]; decide)]
              have qe : (e == 183) = true := by rw [HE.out]; rfl
              clear g1 g2
              refine MixH.start (fun A => OpvAt A O6 ⟨kd, tw, (i : Int), os, oi⟩ ∧ LimAt A O9 l ∧ BovAt A B (.slice (some ⟨gl, 0, none⟩) n cl) (.slice (some ⟨gb, 0, none⟩) n cb) sv ∧ A.cell? ⟨gl, i, none⟩ = some (.slice ma ml mc) ∧ A.cell? ⟨gb, i, none⟩ = some (.int .i64 mb)) (by kernel_rfl) ?_
              obtain ⟨wA, hwA⟩ : ∃ W_, W_ = y1.drew := ⟨_, rfl⟩
              have bdr : Below y1.heap.size y1 wA := by rw [hwA]; exact (Below.refl _ _).drew
              have hS : OpvAt wA O6 ⟨kd, tw, (i : Int), os, oi⟩ ∧ LimAt wA O9 l ∧ BovAt wA B (.slice (some ⟨gl, 0, none⟩) n cl) (.slice (some ⟨gb, 0, none⟩) n cb) sv ∧ wA.cell? ⟨gl, i, none⟩ = some (.slice ma ml mc) ∧ wA.cell? ⟨gb, i, none⟩ = some (.int .i64 mb) := ⟨H9.out.1.below bdr, H9.out.2.1.below bdr, H9.out.2.2.1.at'.below bdr, (H9.out.2.2.1.below bdr).l.cell1 bmV_len HM.out.1 (by unfold bmV; rw [HM.out.2.1]), (H9.out.2.2.1.below bdr).by'.cell1 bmB_len HM.out.1 (by unfold bmB; rw [HM.out.2.2.1.2])⟩
              have HA : Hid (BK N wA B (.slice (some ⟨gl, 0, none⟩) n cl) (.slice (some ⟨gb, 0, none⟩) n cb) sv ms ∧ OpvAt wA O6 ⟨kd, tw, (i : Int), os, oi⟩ ∧ Below w.heap.size w wA) := ⟨H9.out.2.2.1.below bdr, H9.out.1.below bdr, bthen H9.out.2.2.2 bdr⟩
              rw [← hwA]
              clear hwA bdr
              refine MixH.takes [true, true, true, false, true, false, false, false, false, true] 23 (by kernel_rfl) (by kernel_rfl) (by decide) (by kernel_rfl) hS (fun K hK => ?_)
              simp only [Mix.pick]
              repeat (go_big_quiet_step (fail))
              refine wpQuiet_nil (hK _ ?_)
              clear hK K
              refine MixH.take 22 3 _ (.slice (some ⟨gl, 0, none⟩) n cl) rfl (by kernel_rfl) (by kernel_rfl) (by kernel_rfl) (by kernel_rfl) (yields_bks (.tmp 39) rfl ⟨B, 0, none⟩ (.slice (some ⟨gl, 0, none⟩) n cl) rfl rfl (fun A hA => hA.2.2.1.cell 0)) hS (fun a' ha => ?_)
              simp only [Act.put, List.setIfInBounds_toArray, List.set_cons_succ, List.set_cons_zero] at ha
              subst ha
              refine MixH.take 21 5 _ (.int .i64 (i : Int)) rfl (by kernel_rfl) (by kernel_rfl) (by kernel_rfl) (by kernel_rfl) (yields_int (.tmp 41) rfl ⟨O6, 2, none⟩ (.int .i64 (i : Int)) rfl rfl (fun A hA => hA.1.cell 2)) hS (fun a' ha => ?_)
              simp only [Act.put, List.setIfInBounds_toArray, List.set_cons_succ, List.set_cons_zero] at ha
              subst ha
              refine MixH.takes [false, false, false, false, false, false, true] 20 (by kernel_rfl) (by kernel_rfl) (by decide) (by kernel_rfl) hS (fun K hK => ?_)
              simp only [Mix.pick]
              repeat (go_big_quiet_step (fail))
              refine wpQuiet_nil (hK _ ?_)
              clear hK K
              refine MixH.take 19 7 _ (.slice ma ml mc) rfl (by kernel_rfl) (by kernel_rfl) (by kernel_rfl) (by kernel_rfl) (yields_bki (.tmp 43) rfl ⟨gl, i, none⟩ (.slice ma ml mc) rfl rfl (fun A hA => hA.2.2.2.1)) hS (fun a' ha => ?_)
              simp only [Act.put, List.setIfInBounds_toArray, List.set_cons_succ, List.set_cons_zero] at ha
              subst ha
              refine MixH.takes [false, false, false, false, false, false, false, false, true] 18 (by kernel_rfl) (by kernel_rfl) (by decide) (by kernel_rfl) hS (fun K hK => ?_)
              simp only [Mix.pick]
              repeat (go_big_quiet_step (fail))
              refine wpQuiet_nil (hK _ ?_)
              clear hK K
              refine MixH.take 17 10 _ (.int .i64 l.it) rfl (by kernel_rfl) (by kernel_rfl) (by kernel_rfl) (by kernel_rfl) (yields_int (.tmp 46) rfl ⟨O9, 1, none⟩ (.int .i64 l.it) rfl rfl (fun A hA => hA.2.1.cell 1)) hS (fun a' ha => ?_)
              simp only [Act.put, List.setIfInBounds_toArray, List.set_cons_succ, List.set_cons_zero] at ha
              subst ha
              refine MixH.takes [false, false, false, false, false, false, false, false, false, false, false, true, true, true, true, true, false, true, false, false, false, true, false, false, true] 9 (by kernel_rfl) (by kernel_rfl) (by decide) (by kernel_rfl) hS (fun K hK => ?_)
              simp only [Mix.pick]
              repeat (go_big_quiet_step (fail))
              refine wpQuiet_nil (hK _ ?_)
              clear hK K
              refine MixH.take 8 16 _ (.slice (some ⟨gb, 0, none⟩) n cb) rfl (by kernel_rfl) (by kernel_rfl) (by kernel_rfl) (by kernel_rfl) (yields_bkn (.tmp 52) rfl ⟨B, 1, none⟩ (.slice (some ⟨gb, 0, none⟩) n cb) rfl rfl (fun A hA => hA.2.2.1.cell 1)) hS (fun a' ha => ?_)
              simp only [Act.put, List.setIfInBounds_toArray, List.set_cons_succ, List.set_cons_zero] at ha
              subst ha
              refine MixH.take 7 18 _ (.int .i64 (i : Int)) rfl (by kernel_rfl) (by kernel_rfl) (by kernel_rfl) (by kernel_rfl) (yields_int (.tmp 54) rfl ⟨O6, 2, none⟩ (.int .i64 (i : Int)) rfl rfl (fun A hA => hA.1.cell 2)) hS (fun a' ha => ?_)
              simp only [Act.put, List.setIfInBounds_toArray, List.set_cons_succ, List.set_cons_zero] at ha
              subst ha
              refine MixH.takes [false, false, false, false, false, false, false, false, false, false, false, false, false, false, false, false, false, false, false, true] 6 (by kernel_rfl) (by kernel_rfl) (by decide) (by kernel_rfl) hS (fun K hK => ?_)
              simp only [Mix.pick]
              repeat (go_big_quiet_step (fail))
              refine wpQuiet_nil (hK _ ?_)
              clear hK K
              refine MixH.take 5 20 _ (.int .i64 mb) rfl (by kernel_rfl) (by kernel_rfl) (by kernel_rfl) (by kernel_rfl) (yields_int (.tmp 56) rfl ⟨gb, i, none⟩ (.int .i64 mb) rfl rfl (fun A hA => hA.2.2.2.2)) hS (fun a' ha => ?_)
              simp only [Act.put, List.setIfInBounds_toArray, List.set_cons_succ, List.set_cons_zero] at ha
              subst ha
              refine MixH.take 4 22 _ (.int .i64 os) rfl (by kernel_rfl) (by kernel_rfl) (by kernel_rfl) (by kernel_rfl) (yields_int (.tmp 58) rfl ⟨O6, 3, none⟩ (.int .i64 os) rfl rfl (fun A hA => hA.1.cell 3)) hS (fun a' ha => ?_)
              simp only [Act.put, List.setIfInBounds_toArray, List.set_cons_succ, List.set_cons_zero] at ha
              subst ha
              refine MixH.takes [false, false, false, false, false, false, false, false, false, false, false, false, false, false, false, false, false, false, false, false, false, false, false, true] 3 (by kernel_rfl) (by kernel_rfl) (by decide) (by kernel_rfl) hS (fun K hK => ?_)
              simp only [Mix.pick]
              repeat (go_big_quiet_step (fail))
              refine wpQuiet_nil (hK _ ?_)
              clear hK K
              refine MixH.take 2 25 _ (.int .i64 l.by') rfl (by kernel_rfl) (by kernel_rfl) (by kernel_rfl) (by kernel_rfl) (yields_int (.tmp 61) rfl ⟨O9, 2, none⟩ (.int .i64 l.by') rfl rfl (fun A hA => hA.2.1.cell 2)) hS (fun a' ha => ?_)
              simp only [Act.put, List.setIfInBounds_toArray, List.set_cons_succ, List.set_cons_zero] at ha
              subst ha
              refine MixH.takes [false, false, false, false, false, false, false, false, false, false, false, false, false, false, false, false, false, false, false, false, false, false, false, false, false, false, true, true] 0 (by kernel_rfl) (by kernel_rfl) (by decide) (by kernel_rfl) hS (fun K hK => ?_)
              simp only [Mix.pick]
              repeat (go_big_quiet_step (fail))
              refine wpQuiet_nil (hK _ ?_)
              clear hK K
              refine MixH.done (by kernel_rfl) ?_
              clear hS
              go_wp2_with fail
              go_ret
              exact ⟨rfl, ms, HA.out.1, by rw [HU.out]; exact HQ.out.2.2.1, rfl, Ch.ofBelow HA.out.2.2⟩
            · have s2 : decide (l.by' < mb + os) = false := decide_eq_false g2
              have HE : Hid (e = 0) := by show _ = _; rw [HQ.out.2.2.2.2.2]; unfold pushE; rw [if_pos (by rw [HQ.out.2.2.2.2.1]; omega), if_pos HOS.out, if_pos]; unfold room; rw [Int.toNat_natCast, HLE.out.2.2, ← HLE.out.1, ← HLE.out.2.1]; simp; omega
              have qe : (e == 0) = true := by rw [HE.out]; rfl
              clear g1 g2
              refine MixH.start (fun A => OpvAt A O6 ⟨kd, tw, (i : Int), os, oi⟩ ∧ LimAt A O9 l ∧ BovAt A B (.slice (some ⟨gl, 0, none⟩) n cl) (.slice (some ⟨gb, 0, none⟩) n cb) sv ∧ A.cell? ⟨gl, i, none⟩ = some (.slice ma ml mc) ∧ A.cell? ⟨gb, i, none⟩ = some (.int .i64 mb)) (by kernel_rfl) ?_
              obtain ⟨wA, hwA⟩ : ∃ W_, W_ = y1.drew := ⟨_, rfl⟩
              have bdr : Below y1.heap.size y1 wA := by rw [hwA]; exact (Below.refl _ _).drew
              have hS : OpvAt wA O6 ⟨kd, tw, (i : Int), os, oi⟩ ∧ LimAt wA O9 l ∧ BovAt wA B (.slice (some ⟨gl, 0, none⟩) n cl) (.slice (some ⟨gb, 0, none⟩) n cb) sv ∧ wA.cell? ⟨gl, i, none⟩ = some (.slice ma ml mc) ∧ wA.cell? ⟨gb, i, none⟩ = some (.int .i64 mb) := ⟨H9.out.1.below bdr, H9.out.2.1.below bdr, H9.out.2.2.1.at'.below bdr, (H9.out.2.2.1.below bdr).l.cell1 bmV_len HM.out.1 (by unfold bmV; rw [HM.out.2.1]), (H9.out.2.2.1.below bdr).by'.cell1 bmB_len HM.out.1 (by unfold bmB; rw [HM.out.2.2.1.2])⟩
              have HA : Hid (BK N wA B (.slice (some ⟨gl, 0, none⟩) n cl) (.slice (some ⟨gb, 0, none⟩) n cb) sv ms ∧ OpvAt wA O6 ⟨kd, tw, (i : Int), os, oi⟩ ∧ Below w.heap.size w wA) := ⟨H9.out.2.2.1.below bdr, H9.out.1.below bdr, bthen H9.out.2.2.2 bdr⟩
              rw [← hwA]
              clear hwA bdr
              refine MixH.takes [true, true, true, false, true, false, false, false, false, true] 23 (by kernel_rfl) (by kernel_rfl) (by decide) (by kernel_rfl) hS (fun K hK => ?_)
              simp only [Mix.pick]
              repeat (go_big_quiet_step (fail))
              refine wpQuiet_nil (hK _ ?_)
              clear hK K
              refine MixH.take 22 3 _ (.slice (some ⟨gl, 0, none⟩) n cl) rfl (by kernel_rfl) (by kernel_rfl) (by kernel_rfl) (by kernel_rfl) (yields_bks (.tmp 39) rfl ⟨B, 0, none⟩ (.slice (some ⟨gl, 0, none⟩) n cl) rfl rfl (fun A hA => hA.2.2.1.cell 0)) hS (fun a' ha => ?_)
              simp only [Act.put, List.setIfInBounds_toArray, List.set_cons_succ, List.set_cons_zero] at ha
              subst ha
              refine MixH.take 21 5 _ (.int .i64 (i : Int)) rfl (by kernel_rfl) (by kernel_rfl) (by kernel_rfl) (by kernel_rfl) (yields_int (.tmp 41) rfl ⟨O6, 2, none⟩ (.int .i64 (i : Int)) rfl rfl (fun A hA => hA.1.cell 2)) hS (fun a' ha => ?_)
              simp only [Act.put, List.setIfInBounds_toArray, List.set_cons_succ, List.set_cons_zero] at ha
              subst ha
              refine MixH.takes [false, false, false, false, false, false, true] 20 (by kernel_rfl) (by kernel_rfl) (by decide) (by kernel_rfl) hS (fun K hK => ?_)
              simp only [Mix.pick]
              repeat (go_big_quiet_step (fail))
              refine wpQuiet_nil (hK _ ?_)
              clear hK K
              refine MixH.take 19 7 _ (.slice ma ml mc) rfl (by kernel_rfl) (by kernel_rfl) (by kernel_rfl) (by kernel_rfl) (yields_bki (.tmp 43) rfl ⟨gl, i, none⟩ (.slice ma ml mc) rfl rfl (fun A hA => hA.2.2.2.1)) hS (fun a' ha => ?_)
              simp only [Act.put, List.setIfInBounds_toArray, List.set_cons_succ, List.set_cons_zero] at ha
              subst ha
              refine MixH.takes [false, false, false, false, false, false, false, false, true] 18 (by kernel_rfl) (by kernel_rfl) (by decide) (by kernel_rfl) hS (fun K hK => ?_)
              simp only [Mix.pick]
              repeat (go_big_quiet_step (fail))
              refine wpQuiet_nil (hK _ ?_)
              clear hK K
              refine MixH.take 17 10 _ (.int .i64 l.it) rfl (by kernel_rfl) (by kernel_rfl) (by kernel_rfl) (by kernel_rfl) (yields_int (.tmp 46) rfl ⟨O9, 1, none⟩ (.int .i64 l.it) rfl rfl (fun A hA => hA.2.1.cell 1)) hS (fun a' ha => ?_)
              simp only [Act.put, List.setIfInBounds_toArray, List.set_cons_succ, List.set_cons_zero] at ha
              subst ha
              refine MixH.takes [false, false, false, false, false, false, false, false, false, false, false, true, true, true, true, true, false, true, false, false, false, true, false, false, true] 9 (by kernel_rfl) (by kernel_rfl) (by decide) (by kernel_rfl) hS (fun K hK => ?_)
              simp only [Mix.pick]
              repeat (go_big_quiet_step (fail))
              refine wpQuiet_nil (hK _ ?_)
              clear hK K
              refine MixH.take 8 16 _ (.slice (some ⟨gb, 0, none⟩) n cb) rfl (by kernel_rfl) (by kernel_rfl) (by kernel_rfl) (by kernel_rfl) (yields_bkn (.tmp 52) rfl ⟨B, 1, none⟩ (.slice (some ⟨gb, 0, none⟩) n cb) rfl rfl (fun A hA => hA.2.2.1.cell 1)) hS (fun a' ha => ?_)
              simp only [Act.put, List.setIfInBounds_toArray, List.set_cons_succ, List.set_cons_zero] at ha
              subst ha
              refine MixH.take 7 18 _ (.int .i64 (i : Int)) rfl (by kernel_rfl) (by kernel_rfl) (by kernel_rfl) (by kernel_rfl) (yields_int (.tmp 54) rfl ⟨O6, 2, none⟩ (.int .i64 (i : Int)) rfl rfl (fun A hA => hA.1.cell 2)) hS (fun a' ha => ?_)
              simp only [Act.put, List.setIfInBounds_toArray, List.set_cons_succ, List.set_cons_zero] at ha
              subst ha
              refine MixH.takes [false, false, false, false, false, false, false, false, false, false, false, false, false, false, false, false, false, false, false, true] 6 (by kernel_rfl) (by kernel_rfl) (by decide) (by kernel_rfl) hS (fun K hK => ?_)
              simp only [Mix.pick]
              repeat (go_big_quiet_step (fail))
              refine wpQuiet_nil (hK _ ?_)
              clear hK K
              refine MixH.take 5 20 _ (.int .i64 mb) rfl (by kernel_rfl) (by kernel_rfl) (by kernel_rfl) (by kernel_rfl) (yields_int (.tmp 56) rfl ⟨gb, i, none⟩ (.int .i64 mb) rfl rfl (fun A hA => hA.2.2.2.2)) hS (fun a' ha => ?_)
              simp only [Act.put, List.setIfInBounds_toArray, List.set_cons_succ, List.set_cons_zero] at ha
              subst ha
              refine MixH.take 4 22 _ (.int .i64 os) rfl (by kernel_rfl) (by kernel_rfl) (by kernel_rfl) (by kernel_rfl) (yields_int (.tmp 58) rfl ⟨O6, 3, none⟩ (.int .i64 os) rfl rfl (fun A hA => hA.1.cell 3)) hS (fun a' ha => ?_)
              simp only [Act.put, List.setIfInBounds_toArray, List.set_cons_succ, List.set_cons_zero] at ha
              subst ha
              refine MixH.takes [false, false, false, false, false, false, false, false, false, false, false, false, false, false, false, false, false, false, false, false, false, false, false, true] 3 (by kernel_rfl) (by kernel_rfl) (by decide) (by kernel_rfl) hS (fun K hK => ?_)
              simp only [Mix.pick]
              repeat (go_big_quiet_step (fail))
              refine wpQuiet_nil (hK _ ?_)
              clear hK K
              refine MixH.take 2 25 _ (.int .i64 l.by') rfl (by kernel_rfl) (by kernel_rfl) (by kernel_rfl) (by kernel_rfl) (yields_int (.tmp 61) rfl ⟨O9, 2, none⟩ (.int .i64 l.by') rfl rfl (fun A hA => hA.2.1.cell 2)) hS (fun a' ha => ?_)
              simp only [Act.put, List.setIfInBounds_toArray, List.set_cons_succ, List.set_cons_zero] at ha
              subst ha
              refine MixH.takes [false, false, false, false, false, false, false, false, false, false, false, false, false, false, false, false, false, false, false, false, false, false, false, false, false, false, true, true] 0 (by kernel_rfl) (by kernel_rfl) (by decide) (by kernel_rfl) hS (fun K hK => ?_)
              simp only [Mix.pick]
              repeat (go_big_quiet_step (fail))
              refine wpQuiet_nil (hK _ ?_)
              clear hK K
              refine MixH.done (by kernel_rfl) ?_
              clear hS
              go_upto_region 8 with fail
              refine MixH.start (fun A => OpvAt A O6 ⟨kd, tw, (i : Int), os, oi⟩ ∧ BovAt A B (.slice (some ⟨gl, 0, none⟩) n cl) (.slice (some ⟨gb, 0, none⟩) n cb) sv) (by kernel_rfl) ?_
              obtain ⟨wB, hwA⟩ : ∃ W_, W_ = wA.drew := ⟨_, rfl⟩
              have bdr : Below wA.heap.size wA wB := by rw [hwA]; exact (Below.refl _ _).drew
              have hS : OpvAt wB O6 ⟨kd, tw, (i : Int), os, oi⟩ ∧ BovAt wB B (.slice (some ⟨gl, 0, none⟩) n cl) (.slice (some ⟨gb, 0, none⟩) n cb) sv := ⟨HA.out.2.1.below bdr, HA.out.1.at'.below bdr⟩
              have HB : Hid (BK N wB B (.slice (some ⟨gl, 0, none⟩) n cl) (.slice (some ⟨gb, 0, none⟩) n cb) sv ms ∧ OpvAt wB O6 ⟨kd, tw, (i : Int), os, oi⟩ ∧ Below w.heap.size w wB) := ⟨HA.out.1.below bdr, HA.out.2.1.below bdr, bthen HA.out.2.2 bdr⟩
              rw [← hwA]
              clear hwA bdr
              refine MixH.takes [true, true, true, false, true, false, true, true, true, false, true, false, false, false, true, false, true] 13 (by kernel_rfl) (by kernel_rfl) (by decide) (by kernel_rfl) hS (fun K hK => ?_)
              simp only [Mix.pick]
              repeat (go_big_quiet_step (fail))
              refine wpQuiet_nil (hK _ ?_)
              clear hK K
              refine MixH.take 12 3 _ (.slice (some ⟨gl, 0, none⟩) n cl) rfl (by kernel_rfl) (by kernel_rfl) (by kernel_rfl) (by kernel_rfl) (yields_bks (.tmp 69) rfl ⟨B, 0, none⟩ (.slice (some ⟨gl, 0, none⟩) n cl) rfl rfl (fun A hA => hA.2.cell 0)) hS (fun a' ha => ?_)
              simp only [Act.put, List.setIfInBounds_toArray, List.set_cons_succ, List.set_cons_zero] at ha
              subst ha
              refine MixH.take 11 5 _ (.int .i64 (i : Int)) rfl (by kernel_rfl) (by kernel_rfl) (by kernel_rfl) (by kernel_rfl) (yields_int (.tmp 71) rfl ⟨O6, 2, none⟩ (.int .i64 (i : Int)) rfl rfl (fun A hA => hA.1.cell 2)) hS (fun a' ha => ?_)
              simp only [Act.put, List.setIfInBounds_toArray, List.set_cons_succ, List.set_cons_zero] at ha
              subst ha
              refine MixH.take 10 9 _ (.slice (some ⟨gl, 0, none⟩) n cl) rfl (by kernel_rfl) (by kernel_rfl) (by kernel_rfl) (by kernel_rfl) (yields_bks (.tmp 75) rfl ⟨B, 0, none⟩ (.slice (some ⟨gl, 0, none⟩) n cl) rfl rfl (fun A hA => hA.2.cell 0)) hS (fun a' ha => ?_)
              simp only [Act.put, List.setIfInBounds_toArray, List.set_cons_succ, List.set_cons_zero] at ha
              subst ha
              refine MixH.take 9 11 _ (.int .i64 (i : Int)) rfl (by kernel_rfl) (by kernel_rfl) (by kernel_rfl) (by kernel_rfl) (yields_int (.tmp 77) rfl ⟨O6, 2, none⟩ (.int .i64 (i : Int)) rfl rfl (fun A hA => hA.1.cell 2)) hS (fun a' ha => ?_)
              simp only [Act.put, List.setIfInBounds_toArray, List.set_cons_succ, List.set_cons_zero] at ha
              subst ha
              refine MixH.takes [false, false, false, false, false, false, false, false, false, false, false, false, true] 8 (by kernel_rfl) (by kernel_rfl) (by decide) (by kernel_rfl) hS (fun K hK => ?_)
              simp only [Mix.pick]
              repeat (go_big_quiet_step (fail))
              refine wpQuiet_nil (hK _ ?_)
              clear hK K
              refine MixH.take 7 15 _ (.int .i64 os) rfl (by kernel_rfl) (by kernel_rfl) (by kernel_rfl) (by kernel_rfl) (yields_int (.tmp 81) rfl ⟨O6, 3, none⟩ (.int .i64 os) rfl rfl (fun A hA => hA.1.cell 3)) hS (fun a' ha => ?_)
              simp only [Act.put, List.setIfInBounds_toArray, List.set_cons_succ, List.set_cons_zero] at ha
              subst ha
              refine MixH.take 6 17 _ (.int .i64 oi) rfl (by kernel_rfl) (by kernel_rfl) (by kernel_rfl) (by kernel_rfl) (yields_int (.tmp 83) rfl ⟨O6, 4, none⟩ (.int .i64 oi) rfl rfl (fun A hA => hA.1.cell 4)) hS (fun a' ha => ?_)
              simp only [Act.put, List.setIfInBounds_toArray, List.set_cons_succ, List.set_cons_zero] at ha
              subst ha
              refine MixH.take 5 18 _ (.agg (biA (oi, os))) rfl (by kernel_rfl) (by kernel_rfl) (by kernel_rfl) (by kernel_rfl) (yields_bib (.tmp 82) (.tmp 84) rfl os oi rfl rfl rfl) hS (fun a' ha => ?_)
              simp only [Act.put, List.setIfInBounds_toArray, List.set_cons_succ, List.set_cons_zero] at ha
              subst ha
              refine MixH.pair [false, false, false, false, false, false, false, false, false, false, false, false, false, true] [false, false, false, false, false, false, false, false, false, false, false, false, false, false, false, false, false, false, false, true] 4 13 19 _ _ rfl rfl rfl rfl (by kernel_rfl) (by kernel_rfl) (fun K hK => ?_) (fun K hK => ?_)
              · simp only [Mix.pick]
                have cL : wB.cell? ⟨gl, i, none⟩ = some (.slice ma ml mc) := HB.out.1.l.cell1 bmV_len HM.out.1 (by unfold bmV; rw [HM.out.2.1])
                go_wp2_with fail
                clear cL
                refine ⟨rfl, hK _ _ hS ?_⟩
                clear hK K
                refine MixH.one [false, false, false, false, false, false, false, false, false, false, false, false, false, false, false, false, false, false, false, true] 3 19 _ rfl rfl (by kernel_rfl) (by kernel_rfl) (fun K hK => ?_)
                simp only [Mix.pick]
                refine wpList_bs1k (.tmp 85) rfl (oi, os) rfl rfl ?_
                intro Bi Wi hBi hRi bi
                have HI : Hid (BK N Wi B (.slice (some ⟨gl, 0, none⟩) n cl) (.slice (some ⟨gb, 0, none⟩) n cb) sv ms ∧ Wi.rangeAt Bi 0 (biL (oi, os)) ∧ Below w.heap.size w Wi ∧ OpvAt Wi O6 ⟨kd, tw, (i : Int), os, oi⟩) := ⟨HB.out.1.below bi, hRi, bthen HB.out.2.2 bi, HB.out.2.1.below bi⟩
                replace hS : OpvAt Wi O6 ⟨kd, tw, (i : Int), os, oi⟩ ∧ BovAt Wi B (.slice (some ⟨gl, 0, none⟩) n cl) (.slice (some ⟨gb, 0, none⟩) n cb) sv := ⟨hS.1.below bi, hS.2.below bi⟩
                clear hBi hRi bi
                go_wp2_with fail
                refine ⟨rfl, hK _ _ hS ?_⟩
                clear hK K
                refine MixH.one [false, false, false, false, false, false, false, false, false, false, false, false, false, false, false, false, false, false, false, false, true] 2 20 _ rfl rfl (by kernel_rfl) (by kernel_rfl) (fun K hK => ?_)
                simp only [Mix.pick]
                refine wpList_appLn rfl (.tmp 80) (.tmp 86) rfl N (.slice ma ml mc) m.M rfl (by have := HI.out.1.ln m (List.mem_of_getElem? HM.out.1); rw [HM.out.2.1] at this; exact this) Bi 1 (oi, os) rfl HI.out.2.1 (by rw [HM.out.2.2.1.1]; have := HML.out; omega) (Nat.le_trans HI.out.1.lo (Nat.le_of_lt HI.out.1.at'.lt)) ?_
                intro v5 w5 l5 k5 o5
                obtain ⟨a5, c5, hv5⟩ := l5.form
                rw [List.length_append, HM.out.2.2.1.1, List.length_singleton] at hv5
                subst hv5
                have hgl : ¬ (Value.slice ma ml mc).ownBlock = some gl := fun e => by
                  obtain ⟨_, _, c, hc⟩ := HI.out.1.l.kind gl rfl
                  have hln := HI.out.1.ln m (List.mem_of_getElem? HM.out.1)
                  rw [HM.out.2.1] at hln
                  obtain ⟨_, _, c', hc'⟩ := hln.kind e
                  exact tk_ne hc hc' (by decide)
                have hmk : ∀ q c ty, Wi.heap[q]? = some (.cells c ty (0, 0)) → ty ≠ 56 → ¬ (Value.slice ma ml mc).ownBlock = some q := fun q c ty hc hne e => by
                  have hln := HI.out.1.ln m (List.mem_of_getElem? HM.out.1)
                  rw [HM.out.2.1] at hln
                  obtain ⟨_, _, c', hc'⟩ := hln.kind e
                  exact tk_ne hc hc' hne
                have H5 : Hid (Ln N w5 (.slice a5 (ml + 1) c5) (m.M ++ [(oi, os)]) ∧ Ch (fun q => (Value.slice ma ml mc).ownBlock = some q) Wi w5 ∧ (∀ q, (Value.slice a5 (ml + 1) c5).ownBlock = some q → (Value.slice ma ml mc).ownBlock = some q ∨ Wi.heap.size ≤ q) ∧ GL 1 bmV 37 w5 N (.slice (some ⟨gl, 0, none⟩) n cl) ms) := ⟨l5, k5, o5, HI.out.1.l.ch k5 (fun q hq e => hgl (by simp only [Value.ownBlock, Option.some.injEq] at hq; rw [hq]; exact e))⟩
                replace hS : OpvAt w5 O6 ⟨kd, tw, (i : Int), os, oi⟩ ∧ BovAt w5 B (.slice (some ⟨gl, 0, none⟩) n cl) (.slice (some ⟨gb, 0, none⟩) n cb) sv := ⟨hS.1.ch k5 (hmk _ _ _ hS.1 (by decide)), hS.2.ch k5 (hmk _ _ _ hS.2 (by decide))⟩
                clear l5 k5 o5 hgl hmk
                go_wp2_with fail
                refine ⟨rfl, hK _ _ hS ?_⟩
                clear hK K
                refine MixH.takes [false, false, false, false, false, false, false, false, false, false, false, false, false, false, false, false, false, false, false, false, false, true] 1 (by kernel_rfl) (by kernel_rfl) (by decide) (by kernel_rfl) hS (fun K hK => ?_)
                simp only [Mix.pick]
                repeat (go_big_quiet_step (fail))
                refine wpQuiet_nil (hK _ ?_)
                clear hK K
                refine MixH.one [false, false, false, false, false, false, false, false, false, false, false, false, false, false, false, false, false, false, false, false, false, false, true] 0 22 _ rfl rfl (by kernel_rfl) (by kernel_rfl) (fun K hK => ?_)
                simp only [Mix.pick]
                have cL : w5.cell? ⟨gl, i, none⟩ = some (.slice ma ml mc) := H5.out.2.2.2.cell1 bmV_len HM.out.1 (by unfold bmV; rw [HM.out.2.1])
                have zL := H5.out.2.2.2.frozen i
                have kk : Ch (fun q => q = gl) w5 (w5.setCell ⟨gl, i, none⟩ (.slice a5 (ml + 1) c5)) := (Ch.refl (fun q => q = gl) w5).set ⟨gl, i, none⟩ _ rfl
                have hgk : ∀ q c ty, w5.heap[q]? = some (.cells c ty (0, 0)) → ty ≠ 37 → ¬ q = gl := fun q c ty hc hne e => by
                  subst e
                  obtain ⟨_, _, c', hc'⟩ := H5.out.2.2.2.kind q rfl
                  exact tk_ne hc hc' hne
                have HF : Hid (BK N (w5.setCell ⟨gl, i, none⟩ (.slice a5 (ml + 1) c5)) B (.slice (some ⟨gl, 0, none⟩) n cl) (.slice (some ⟨gb, 0, none⟩) n cb) sv (ms.set i ⟨a5, c5, m.M ++ [(oi, os)], m.b, m.s⟩) ∧ Ch (BB B (.slice (some ⟨gl, 0, none⟩) n cl) (.slice (some ⟨gb, 0, none⟩) n cb) sv ms) w (w5.setCell ⟨gl, i, none⟩ (.slice a5 (ml + 1) c5)) ∧ OpvAt (w5.setCell ⟨gl, i, none⟩ (.slice a5 (ml + 1) c5)) O6 ⟨kd, tw, (i : Int), os, oi⟩) := by
                  have kw : Ch (fun q => (Value.slice (some ⟨gl, 0, none⟩) n cl).ownBlock = some q ∨ m.v.ownBlock = some q) Wi (w5.setCell ⟨gl, i, none⟩ (.slice a5 (ml + 1) c5)) := (H5.out.2.1.mono (fun q _ e => .inr (by rw [HM.out.2.1]; exact e))).trans kk (fun q _ e => .inl (by have e' : q = gl := e; rw [e']; rfl))
                  have hlen : (m.M ++ [(oi, os)]).length = ml + 1 := by rw [List.length_append, HM.out.2.2.1.1]; rfl
                  have g1 := H5.out.2.2.2.set1 bmV_len (i := i) (m' := ⟨a5, c5, m.M ++ [(oi, os)], m.b, m.s⟩) (u := .slice a5 (ml + 1) c5) (by unfold bmV BM.v; simp only [hlen]) (List.getElem?_eq_some_iff.1 HM.out.1).1
                  have hv : (BM.v ⟨a5, c5, m.M ++ [(oi, os)], m.b, m.s⟩) = .slice a5 (ml + 1) c5 := by unfold BM.v; simp only [hlen]
                  have hn5 : Ln N (w5.setCell ⟨gl, i, none⟩ (.slice a5 (ml + 1) c5)) (BM.v ⟨a5, c5, m.M ++ [(oi, os)], m.b, m.s⟩) (m.M ++ [(oi, os)]) := by
                    rw [hv]
                    refine H5.out.1.ch kk (fun q hq e => ?_)
                    obtain ⟨_, _, c, hc⟩ := H5.out.1.kind hq
                    exact hgk q _ _ hc (by decide) e
                  refine ⟨HI.out.1.putL HM.out.1 kw g1 hn5 rfl rfl (fun q hq => ?_), (Ch.ofBelow HI.out.2.2.1).trans (kw.mono (fun q _ e => ?_)) (fun _ _ e => e), hS.1.ch kk (hgk _ _ _ hS.1 (by decide))⟩
                  · rw [hv] at hq
                    rw [HM.out.2.1]
                    exact H5.out.2.2.1 q hq
                  · rcases e with e | e
                    · exact .inr (.inl e)
                    · exact .inr (.inr (.inr (.inr ⟨m, List.mem_of_getElem? HM.out.1, e⟩)))
                replace hS : OpvAt (w5.setCell ⟨gl, i, none⟩ (.slice a5 (ml + 1) c5)) O6 ⟨kd, tw, (i : Int), os, oi⟩ ∧ BovAt (w5.setCell ⟨gl, i, none⟩ (.slice a5 (ml + 1) c5)) B (.slice (some ⟨gl, 0, none⟩) n cl) (.slice (some ⟨gb, 0, none⟩) n cb) sv := ⟨hS.1.ch kk (hgk _ _ _ hS.1 (by decide)), hS.2.ch kk (hgk _ _ _ hS.2 (by decide))⟩
                clear kk hgk
                go_wp2_with fail
                refine ⟨rfl, hK _ _ hS ?_⟩
                clear hK K
                refine MixH.done (by kernel_rfl) ?_
                clear hS
                obtain ⟨w6, hw6⟩ : ∃ y, w5.setCell ⟨gl, i, none⟩ (.slice a5 (ml + 1) c5) = y := ⟨_, rfl⟩
                rw [hw6] at HF ⊢
                clear hw6 H5 HI HB
                obtain ⟨m6, hm6⟩ : ∃ m6 : BM, m6 = ⟨a5, c5, m.M ++ [(oi, os)], m.b, m.s⟩ := ⟨_, rfl⟩
                rw [← hm6] at HF
                have HM6 : Hid ((ms.set i m6)[i]? = some m6 ∧ m6.b = mb ∧ m6.M = m.M ++ [(oi, os)] ∧ m6.s = m.s) := ⟨List.getElem?_set_self (List.getElem?_eq_some_iff.1 HM.out.1).1, by rw [hm6]; exact HM.out.2.2.1.2, by rw [hm6], by rw [hm6]⟩
                clear hm6
                go_upto_region 9 with fail
                refine MixH.start (fun A => OpvAt A O6 ⟨kd, tw, (i : Int), os, oi⟩ ∧ BovAt A B (.slice (some ⟨gl, 0, none⟩) n cl) (.slice (some ⟨gb, 0, none⟩) n cb) sv) (by kernel_rfl) ?_
                obtain ⟨wC, hwA⟩ : ∃ W_, W_ = w6.drew := ⟨_, rfl⟩
                have bdr : Below w6.heap.size w6 wC := by rw [hwA]; exact (Below.refl _ _).drew
                have hS : OpvAt wC O6 ⟨kd, tw, (i : Int), os, oi⟩ ∧ BovAt wC B (.slice (some ⟨gl, 0, none⟩) n cl) (.slice (some ⟨gb, 0, none⟩) n cb) sv := ⟨HF.out.2.2.below bdr, HF.out.1.at'.below bdr⟩
                have HC : Hid (BK N wC B (.slice (some ⟨gl, 0, none⟩) n cl) (.slice (some ⟨gb, 0, none⟩) n cb) sv (ms.set i m6) ∧ Ch (BB B (.slice (some ⟨gl, 0, none⟩) n cl) (.slice (some ⟨gb, 0, none⟩) n cb) sv ms) w wC) := ⟨HF.out.1.below bdr, HF.out.2.1.trans (Ch.ofBelow (S := fun _ => False) bdr) (fun _ _ e => e.elim)⟩
                rw [← hwA]
                clear hwA bdr
                refine MixH.takes [true, true, true, false, true, false, true, true, true, false, true, false, false, false, true] 10 (by kernel_rfl) (by kernel_rfl) (by decide) (by kernel_rfl) hS (fun K hK => ?_)
                simp only [Mix.pick]
                repeat (go_big_quiet_step (fail))
                refine wpQuiet_nil (hK _ ?_)
                clear hK K
                refine MixH.take 9 3 _ (.slice (some ⟨gb, 0, none⟩) n cb) rfl (by kernel_rfl) (by kernel_rfl) (by kernel_rfl) (by kernel_rfl) (yields_bkn (.tmp 91) rfl ⟨B, 1, none⟩ (.slice (some ⟨gb, 0, none⟩) n cb) rfl rfl (fun A hA => hA.2.cell 1)) hS (fun a' ha => ?_)
                simp only [Act.put, List.setIfInBounds_toArray, List.set_cons_succ, List.set_cons_zero] at ha
                subst ha
                refine MixH.take 8 5 _ (.int .i64 (i : Int)) rfl (by kernel_rfl) (by kernel_rfl) (by kernel_rfl) (by kernel_rfl) (yields_int (.tmp 93) rfl ⟨O6, 2, none⟩ (.int .i64 (i : Int)) rfl rfl (fun A hA => hA.1.cell 2)) hS (fun a' ha => ?_)
                simp only [Act.put, List.setIfInBounds_toArray, List.set_cons_succ, List.set_cons_zero] at ha
                subst ha
                refine MixH.take 7 9 _ (.slice (some ⟨gb, 0, none⟩) n cb) rfl (by kernel_rfl) (by kernel_rfl) (by kernel_rfl) (by kernel_rfl) (yields_bkn (.tmp 97) rfl ⟨B, 1, none⟩ (.slice (some ⟨gb, 0, none⟩) n cb) rfl rfl (fun A hA => hA.2.cell 1)) hS (fun a' ha => ?_)
                simp only [Act.put, List.setIfInBounds_toArray, List.set_cons_succ, List.set_cons_zero] at ha
                subst ha
                refine MixH.take 6 11 _ (.int .i64 (i : Int)) rfl (by kernel_rfl) (by kernel_rfl) (by kernel_rfl) (by kernel_rfl) (yields_int (.tmp 99) rfl ⟨O6, 2, none⟩ (.int .i64 (i : Int)) rfl rfl (fun A hA => hA.1.cell 2)) hS (fun a' ha => ?_)
                simp only [Act.put, List.setIfInBounds_toArray, List.set_cons_succ, List.set_cons_zero] at ha
                subst ha
                refine MixH.takes [false, false, false, false, false, false, false, false, false, false, false, false, true] 5 (by kernel_rfl) (by kernel_rfl) (by decide) (by kernel_rfl) hS (fun K hK => ?_)
                simp only [Mix.pick]
                repeat (go_big_quiet_step (fail))
                refine wpQuiet_nil (hK _ ?_)
                clear hK K
                refine MixH.take 4 15 _ (.int .i64 os) rfl (by kernel_rfl) (by kernel_rfl) (by kernel_rfl) (by kernel_rfl) (yields_int (.tmp 103) rfl ⟨O6, 3, none⟩ (.int .i64 os) rfl rfl (fun A hA => hA.1.cell 3)) hS (fun a' ha => ?_)
                simp only [Act.put, List.setIfInBounds_toArray, List.set_cons_succ, List.set_cons_zero] at ha
                subst ha
                refine MixH.one [false, false, false, false, false, false, false, false, false, false, false, false, false, true] 3 13 _ rfl rfl (by kernel_rfl) (by kernel_rfl) (fun K hK => ?_)
                simp only [Mix.pick]
                have cL : wC.cell? ⟨gb, i, none⟩ = some (.int .i64 mb) := HC.out.1.by'.cell1 bmB_len HM6.out.1 (by unfold bmB; rw [HM6.out.2.1])
                go_wp2_with fail
                clear cL
                refine ⟨rfl, hK _ _ hS ?_⟩
                clear hK K
                refine MixH.takes [false, false, false, false, false, false, false, false, false, false, false, false, false, false, false, false, true, true] 1 (by kernel_rfl) (by kernel_rfl) (by decide) (by kernel_rfl) hS (fun K hK => ?_)
                simp only [Mix.pick]
                repeat (go_big_quiet_step (fail))
                refine wpQuiet_nil (hK _ ?_)
                clear hK K
                refine MixH.one [false, false, false, false, false, false, false, false, false, false, false, false, false, false, false, false, false, false, true] 0 18 _ rfl rfl (by kernel_rfl) (by kernel_rfl) (fun K hK => ?_)
                simp only [Mix.pick]
                have cL : wC.cell? ⟨gb, i, none⟩ = some (.int .i64 mb) := HC.out.1.by'.cell1 bmB_len HM6.out.1 (by unfold bmB; rw [HM6.out.2.1])
                have zL := HC.out.1.by'.frozen i
                have kk : Ch (fun q => q = gb) wC (wC.setCell ⟨gb, i, none⟩ (.int .i64 (mb + os))) := (Ch.refl (fun q => q = gb) wC).set ⟨gb, i, none⟩ _ rfl
                have hgk : ∀ q c ty, wC.heap[q]? = some (.cells c ty (0, 0)) → ty ≠ 3 → ¬ q = gb := fun q c ty hc hne e => by
                  subst e
                  obtain ⟨_, _, c', hc'⟩ := HC.out.1.by'.kind q rfl
                  exact tk_ne hc hc' hne
                have HG : Hid (BK N (wC.setCell ⟨gb, i, none⟩ (.int .i64 (mb + os))) B (.slice (some ⟨gl, 0, none⟩) n cl) (.slice (some ⟨gb, 0, none⟩) n cb) sv (ms.set i ⟨m6.a, m6.c, m6.M, mb + os, m6.s⟩) ∧ Ch (BB B (.slice (some ⟨gl, 0, none⟩) n cl) (.slice (some ⟨gb, 0, none⟩) n cb) sv ms) w (wC.setCell ⟨gb, i, none⟩ (.int .i64 (mb + os)))) := by
                  have g1 := HC.out.1.by'.set1 bmB_len (i := i) (m' := ⟨m6.a, m6.c, m6.M, mb + os, m6.s⟩) (u := .int .i64 (mb + os)) rfl (List.getElem?_eq_some_iff.1 HM6.out.1).1
                  have h1 := HC.out.1.putB HM6.out.1 (m' := ⟨m6.a, m6.c, m6.M, mb + os, m6.s⟩) (kk.mono (fun q _ e => by have e' : q = gb := e; rw [e']; rfl)) g1 rfl rfl rfl
                  rw [List.set_set] at h1
                  exact ⟨h1, HC.out.2.trans kk (fun q _ e => .inr (.inr (.inl (by have e' : q = gb := e; rw [e']; rfl))))⟩
                replace hS : OpvAt (wC.setCell ⟨gb, i, none⟩ (.int .i64 (mb + os))) O6 ⟨kd, tw, (i : Int), os, oi⟩ ∧ BovAt (wC.setCell ⟨gb, i, none⟩ (.int .i64 (mb + os))) B (.slice (some ⟨gl, 0, none⟩) n cl) (.slice (some ⟨gb, 0, none⟩) n cb) sv := ⟨hS.1.ch kk (hgk _ _ _ hS.1 (by decide)), hS.2.ch kk (hgk _ _ _ hS.2 (by decide))⟩
                clear kk hgk
                go_wp2_with fail
                refine ⟨rfl, hK _ _ hS ?_⟩
                clear hK K
                refine MixH.done (by kernel_rfl) ?_
                clear hS
                go_wp2_with fail
                go_ret
                refine ⟨rfl, _, HG.out.1, ?_, ?_, HG.out.2⟩
                · have hp : pushE cs (i : Int) os = 0 := by rw [← HQ.out.2.2.2.2.2]; exact HE.out
                  have hi := HIN.out
                  unfold pushCs
                  rw [if_pos hp, Int.toNat_natCast]
                  have h2 := HQ.out.2.2.1.at' i m HM.out.1
                  refine HQ.out.2.2.1.set (by rw [HQ.out.2.2.2.2.1]; exact hi) ?_ ?_
                  · show m6.M = _
                    rw [HM6.out.2.2.1, h2.1]
                    rfl
                  · show mb + os = szL (joinC _ _ _).L
                    rw [← HM.out.2.2.1.2, h2.2]
                    simp only [joinC, szL_app, szL]
                    omega
                · have h3 := map_set_s (m' := ⟨m6.a, m6.c, m6.M, mb + os, m6.s⟩) HM.out.1 HM6.out.2.2.2
                  exact h3
              · simp only [Mix.pick]
                refine wpList_bs1k (.tmp 85) rfl (oi, os) rfl rfl ?_
                intro Bi Wi hBi hRi bi
                have HI : Hid (BK N Wi B (.slice (some ⟨gl, 0, none⟩) n cl) (.slice (some ⟨gb, 0, none⟩) n cb) sv ms ∧ Wi.rangeAt Bi 0 (biL (oi, os)) ∧ Below w.heap.size w Wi ∧ OpvAt Wi O6 ⟨kd, tw, (i : Int), os, oi⟩) := ⟨HB.out.1.below bi, hRi, bthen HB.out.2.2 bi, HB.out.2.1.below bi⟩
                replace hS : OpvAt Wi O6 ⟨kd, tw, (i : Int), os, oi⟩ ∧ BovAt Wi B (.slice (some ⟨gl, 0, none⟩) n cl) (.slice (some ⟨gb, 0, none⟩) n cb) sv := ⟨hS.1.below bi, hS.2.below bi⟩
                clear hBi hRi bi
                go_wp2_with fail
                refine ⟨rfl, hK _ _ hS ?_⟩
                clear hK K
                refine MixH.one [false, false, false, false, false, false, false, false, false, false, false, false, false, true] 3 13 _ rfl rfl (by kernel_rfl) (by kernel_rfl) (fun K hK => ?_)
                simp only [Mix.pick]
                have cL : Wi.cell? ⟨gl, i, none⟩ = some (.slice ma ml mc) := HI.out.1.l.cell1 bmV_len HM.out.1 (by unfold bmV; rw [HM.out.2.1])
                go_wp2_with fail
                clear cL
                refine ⟨rfl, hK _ _ hS ?_⟩
                clear hK K
                refine MixH.one [false, false, false, false, false, false, false, false, false, false, false, false, false, false, false, false, false, false, false, false, true] 2 20 _ rfl rfl (by kernel_rfl) (by kernel_rfl) (fun K hK => ?_)
                simp only [Mix.pick]
                refine wpList_appLn rfl (.tmp 80) (.tmp 86) rfl N (.slice ma ml mc) m.M rfl (by have := HI.out.1.ln m (List.mem_of_getElem? HM.out.1); rw [HM.out.2.1] at this; exact this) Bi 1 (oi, os) rfl HI.out.2.1 (by rw [HM.out.2.2.1.1]; have := HML.out; omega) (Nat.le_trans HI.out.1.lo (Nat.le_of_lt HI.out.1.at'.lt)) ?_
                intro v5 w5 l5 k5 o5
                obtain ⟨a5, c5, hv5⟩ := l5.form
                rw [List.length_append, HM.out.2.2.1.1, List.length_singleton] at hv5
                subst hv5
                have hgl : ¬ (Value.slice ma ml mc).ownBlock = some gl := fun e => by
                  obtain ⟨_, _, c, hc⟩ := HI.out.1.l.kind gl rfl
                  have hln := HI.out.1.ln m (List.mem_of_getElem? HM.out.1)
                  rw [HM.out.2.1] at hln
                  obtain ⟨_, _, c', hc'⟩ := hln.kind e
                  exact tk_ne hc hc' (by decide)
                have hmk : ∀ q c ty, Wi.heap[q]? = some (.cells c ty (0, 0)) → ty ≠ 56 → ¬ (Value.slice ma ml mc).ownBlock = some q := fun q c ty hc hne e => by
                  have hln := HI.out.1.ln m (List.mem_of_getElem? HM.out.1)
                  rw [HM.out.2.1] at hln
                  obtain ⟨_, _, c', hc'⟩ := hln.kind e
                  exact tk_ne hc hc' hne
                have H5 : Hid (Ln N w5 (.slice a5 (ml + 1) c5) (m.M ++ [(oi, os)]) ∧ Ch (fun q => (Value.slice ma ml mc).ownBlock = some q) Wi w5 ∧ (∀ q, (Value.slice a5 (ml + 1) c5).ownBlock = some q → (Value.slice ma ml mc).ownBlock = some q ∨ Wi.heap.size ≤ q) ∧ GL 1 bmV 37 w5 N (.slice (some ⟨gl, 0, none⟩) n cl) ms) := ⟨l5, k5, o5, HI.out.1.l.ch k5 (fun q hq e => hgl (by simp only [Value.ownBlock, Option.some.injEq] at hq; rw [hq]; exact e))⟩
                replace hS : OpvAt w5 O6 ⟨kd, tw, (i : Int), os, oi⟩ ∧ BovAt w5 B (.slice (some ⟨gl, 0, none⟩) n cl) (.slice (some ⟨gb, 0, none⟩) n cb) sv := ⟨hS.1.ch k5 (hmk _ _ _ hS.1 (by decide)), hS.2.ch k5 (hmk _ _ _ hS.2 (by decide))⟩
                clear l5 k5 o5 hgl hmk
                go_wp2_with fail
                refine ⟨rfl, hK _ _ hS ?_⟩
                clear hK K
                refine MixH.takes [false, false, false, false, false, false, false, false, false, false, false, false, false, false, false, false, false, false, false, false, false, true] 1 (by kernel_rfl) (by kernel_rfl) (by decide) (by kernel_rfl) hS (fun K hK => ?_)
                simp only [Mix.pick]
                repeat (go_big_quiet_step (fail))
                refine wpQuiet_nil (hK _ ?_)
                clear hK K
                refine MixH.one [false, false, false, false, false, false, false, false, false, false, false, false, false, false, false, false, false, false, false, false, false, false, true] 0 22 _ rfl rfl (by kernel_rfl) (by kernel_rfl) (fun K hK => ?_)
                simp only [Mix.pick]
                have cL : w5.cell? ⟨gl, i, none⟩ = some (.slice ma ml mc) := H5.out.2.2.2.cell1 bmV_len HM.out.1 (by unfold bmV; rw [HM.out.2.1])
                have zL := H5.out.2.2.2.frozen i
                have kk : Ch (fun q => q = gl) w5 (w5.setCell ⟨gl, i, none⟩ (.slice a5 (ml + 1) c5)) := (Ch.refl (fun q => q = gl) w5).set ⟨gl, i, none⟩ _ rfl
                have hgk : ∀ q c ty, w5.heap[q]? = some (.cells c ty (0, 0)) → ty ≠ 37 → ¬ q = gl := fun q c ty hc hne e => by
                  subst e
                  obtain ⟨_, _, c', hc'⟩ := H5.out.2.2.2.kind q rfl
                  exact tk_ne hc hc' hne
                have HF : Hid (BK N (w5.setCell ⟨gl, i, none⟩ (.slice a5 (ml + 1) c5)) B (.slice (some ⟨gl, 0, none⟩) n cl) (.slice (some ⟨gb, 0, none⟩) n cb) sv (ms.set i ⟨a5, c5, m.M ++ [(oi, os)], m.b, m.s⟩) ∧ Ch (BB B (.slice (some ⟨gl, 0, none⟩) n cl) (.slice (some ⟨gb, 0, none⟩) n cb) sv ms) w (w5.setCell ⟨gl, i, none⟩ (.slice a5 (ml + 1) c5)) ∧ OpvAt (w5.setCell ⟨gl, i, none⟩ (.slice a5 (ml + 1) c5)) O6 ⟨kd, tw, (i : Int), os, oi⟩) := by
                  have kw : Ch (fun q => (Value.slice (some ⟨gl, 0, none⟩) n cl).ownBlock = some q ∨ m.v.ownBlock = some q) Wi (w5.setCell ⟨gl, i, none⟩ (.slice a5 (ml + 1) c5)) := (H5.out.2.1.mono (fun q _ e => .inr (by rw [HM.out.2.1]; exact e))).trans kk (fun q _ e => .inl (by have e' : q = gl := e; rw [e']; rfl))
                  have hlen : (m.M ++ [(oi, os)]).length = ml + 1 := by rw [List.length_append, HM.out.2.2.1.1]; rfl
                  have g1 := H5.out.2.2.2.set1 bmV_len (i := i) (m' := ⟨a5, c5, m.M ++ [(oi, os)], m.b, m.s⟩) (u := .slice a5 (ml + 1) c5) (by unfold bmV BM.v; simp only [hlen]) (List.getElem?_eq_some_iff.1 HM.out.1).1
                  have hv : (BM.v ⟨a5, c5, m.M ++ [(oi, os)], m.b, m.s⟩) = .slice a5 (ml + 1) c5 := by unfold BM.v; simp only [hlen]
                  have hn5 : Ln N (w5.setCell ⟨gl, i, none⟩ (.slice a5 (ml + 1) c5)) (BM.v ⟨a5, c5, m.M ++ [(oi, os)], m.b, m.s⟩) (m.M ++ [(oi, os)]) := by
                    rw [hv]
                    refine H5.out.1.ch kk (fun q hq e => ?_)
                    obtain ⟨_, _, c, hc⟩ := H5.out.1.kind hq
                    exact hgk q _ _ hc (by decide) e
                  refine ⟨HI.out.1.putL HM.out.1 kw g1 hn5 rfl rfl (fun q hq => ?_), (Ch.ofBelow HI.out.2.2.1).trans (kw.mono (fun q _ e => ?_)) (fun _ _ e => e), hS.1.ch kk (hgk _ _ _ hS.1 (by decide))⟩
                  · rw [hv] at hq
                    rw [HM.out.2.1]
                    exact H5.out.2.2.1 q hq
                  · rcases e with e | e
                    · exact .inr (.inl e)
                    · exact .inr (.inr (.inr (.inr ⟨m, List.mem_of_getElem? HM.out.1, e⟩)))
                replace hS : OpvAt (w5.setCell ⟨gl, i, none⟩ (.slice a5 (ml + 1) c5)) O6 ⟨kd, tw, (i : Int), os, oi⟩ ∧ BovAt (w5.setCell ⟨gl, i, none⟩ (.slice a5 (ml + 1) c5)) B (.slice (some ⟨gl, 0, none⟩) n cl) (.slice (some ⟨gb, 0, none⟩) n cb) sv := ⟨hS.1.ch kk (hgk _ _ _ hS.1 (by decide)), hS.2.ch kk (hgk _ _ _ hS.2 (by decide))⟩
                clear kk hgk
                go_wp2_with fail
                refine ⟨rfl, hK _ _ hS ?_⟩
                clear hK K
                refine MixH.done (by kernel_rfl) ?_
                clear hS
                obtain ⟨w6, hw6⟩ : ∃ y, w5.setCell ⟨gl, i, none⟩ (.slice a5 (ml + 1) c5) = y := ⟨_, rfl⟩
                rw [hw6] at HF ⊢
                clear hw6 H5 HI HB
                obtain ⟨m6, hm6⟩ : ∃ m6 : BM, m6 = ⟨a5, c5, m.M ++ [(oi, os)], m.b, m.s⟩ := ⟨_, rfl⟩
                rw [← hm6] at HF
                have HM6 : Hid ((ms.set i m6)[i]? = some m6 ∧ m6.b = mb ∧ m6.M = m.M ++ [(oi, os)] ∧ m6.s = m.s) := ⟨List.getElem?_set_self (List.getElem?_eq_some_iff.1 HM.out.1).1, by rw [hm6]; exact HM.out.2.2.1.2, by rw [hm6], by rw [hm6]⟩
                clear hm6
                go_upto_region 9 with fail
                refine MixH.start (fun A => OpvAt A O6 ⟨kd, tw, (i : Int), os, oi⟩ ∧ BovAt A B (.slice (some ⟨gl, 0, none⟩) n cl) (.slice (some ⟨gb, 0, none⟩) n cb) sv) (by kernel_rfl) ?_
                obtain ⟨wC, hwA⟩ : ∃ W_, W_ = w6.drew := ⟨_, rfl⟩
                have bdr : Below w6.heap.size w6 wC := by rw [hwA]; exact (Below.refl _ _).drew
                have hS : OpvAt wC O6 ⟨kd, tw, (i : Int), os, oi⟩ ∧ BovAt wC B (.slice (some ⟨gl, 0, none⟩) n cl) (.slice (some ⟨gb, 0, none⟩) n cb) sv := ⟨HF.out.2.2.below bdr, HF.out.1.at'.below bdr⟩
                have HC : Hid (BK N wC B (.slice (some ⟨gl, 0, none⟩) n cl) (.slice (some ⟨gb, 0, none⟩) n cb) sv (ms.set i m6) ∧ Ch (BB B (.slice (some ⟨gl, 0, none⟩) n cl) (.slice (some ⟨gb, 0, none⟩) n cb) sv ms) w wC) := ⟨HF.out.1.below bdr, HF.out.2.1.trans (Ch.ofBelow (S := fun _ => False) bdr) (fun _ _ e => e.elim)⟩
                rw [← hwA]
                clear hwA bdr
                refine MixH.takes [true, true, true, false, true, false, true, true, true, false, true, false, false, false, true] 10 (by kernel_rfl) (by kernel_rfl) (by decide) (by kernel_rfl) hS (fun K hK => ?_)
                simp only [Mix.pick]
                repeat (go_big_quiet_step (fail))
                refine wpQuiet_nil (hK _ ?_)
                clear hK K
                refine MixH.take 9 3 _ (.slice (some ⟨gb, 0, none⟩) n cb) rfl (by kernel_rfl) (by kernel_rfl) (by kernel_rfl) (by kernel_rfl) (yields_bkn (.tmp 91) rfl ⟨B, 1, none⟩ (.slice (some ⟨gb, 0, none⟩) n cb) rfl rfl (fun A hA => hA.2.cell 1)) hS (fun a' ha => ?_)
                simp only [Act.put, List.setIfInBounds_toArray, List.set_cons_succ, List.set_cons_zero] at ha
                subst ha
                refine MixH.take 8 5 _ (.int .i64 (i : Int)) rfl (by kernel_rfl) (by kernel_rfl) (by kernel_rfl) (by kernel_rfl) (yields_int (.tmp 93) rfl ⟨O6, 2, none⟩ (.int .i64 (i : Int)) rfl rfl (fun A hA => hA.1.cell 2)) hS (fun a' ha => ?_)
                simp only [Act.put, List.setIfInBounds_toArray, List.set_cons_succ, List.set_cons_zero] at ha
                subst ha
                refine MixH.take 7 9 _ (.slice (some ⟨gb, 0, none⟩) n cb) rfl (by kernel_rfl) (by kernel_rfl) (by kernel_rfl) (by kernel_rfl) (yields_bkn (.tmp 97) rfl ⟨B, 1, none⟩ (.slice (some ⟨gb, 0, none⟩) n cb) rfl rfl (fun A hA => hA.2.cell 1)) hS (fun a' ha => ?_)
                simp only [Act.put, List.setIfInBounds_toArray, List.set_cons_succ, List.set_cons_zero] at ha
                subst ha
                refine MixH.take 6 11 _ (.int .i64 (i : Int)) rfl (by kernel_rfl) (by kernel_rfl) (by kernel_rfl) (by kernel_rfl) (yields_int (.tmp 99) rfl ⟨O6, 2, none⟩ (.int .i64 (i : Int)) rfl rfl (fun A hA => hA.1.cell 2)) hS (fun a' ha => ?_)
                simp only [Act.put, List.setIfInBounds_toArray, List.set_cons_succ, List.set_cons_zero] at ha
                subst ha
                refine MixH.takes [false, false, false, false, false, false, false, false, false, false, false, false, true] 5 (by kernel_rfl) (by kernel_rfl) (by decide) (by kernel_rfl) hS (fun K hK => ?_)
                simp only [Mix.pick]
                repeat (go_big_quiet_step (fail))
                refine wpQuiet_nil (hK _ ?_)
                clear hK K
                refine MixH.take 4 15 _ (.int .i64 os) rfl (by kernel_rfl) (by kernel_rfl) (by kernel_rfl) (by kernel_rfl) (yields_int (.tmp 103) rfl ⟨O6, 3, none⟩ (.int .i64 os) rfl rfl (fun A hA => hA.1.cell 3)) hS (fun a' ha => ?_)
                simp only [Act.put, List.setIfInBounds_toArray, List.set_cons_succ, List.set_cons_zero] at ha
                subst ha
                refine MixH.one [false, false, false, false, false, false, false, false, false, false, false, false, false, true] 3 13 _ rfl rfl (by kernel_rfl) (by kernel_rfl) (fun K hK => ?_)
                simp only [Mix.pick]
                have cL : wC.cell? ⟨gb, i, none⟩ = some (.int .i64 mb) := HC.out.1.by'.cell1 bmB_len HM6.out.1 (by unfold bmB; rw [HM6.out.2.1])
                go_wp2_with fail
                clear cL
                refine ⟨rfl, hK _ _ hS ?_⟩
                clear hK K
                refine MixH.takes [false, false, false, false, false, false, false, false, false, false, false, false, false, false, false, false, true, true] 1 (by kernel_rfl) (by kernel_rfl) (by decide) (by kernel_rfl) hS (fun K hK => ?_)
                simp only [Mix.pick]
                repeat (go_big_quiet_step (fail))
                refine wpQuiet_nil (hK _ ?_)
                clear hK K
                refine MixH.one [false, false, false, false, false, false, false, false, false, false, false, false, false, false, false, false, false, false, true] 0 18 _ rfl rfl (by kernel_rfl) (by kernel_rfl) (fun K hK => ?_)
                simp only [Mix.pick]
                have cL : wC.cell? ⟨gb, i, none⟩ = some (.int .i64 mb) := HC.out.1.by'.cell1 bmB_len HM6.out.1 (by unfold bmB; rw [HM6.out.2.1])
                have zL := HC.out.1.by'.frozen i
                have kk : Ch (fun q => q = gb) wC (wC.setCell ⟨gb, i, none⟩ (.int .i64 (mb + os))) := (Ch.refl (fun q => q = gb) wC).set ⟨gb, i, none⟩ _ rfl
                have hgk : ∀ q c ty, wC.heap[q]? = some (.cells c ty (0, 0)) → ty ≠ 3 → ¬ q = gb := fun q c ty hc hne e => by
                  subst e
                  obtain ⟨_, _, c', hc'⟩ := HC.out.1.by'.kind q rfl
                  exact tk_ne hc hc' hne
                have HG : Hid (BK N (wC.setCell ⟨gb, i, none⟩ (.int .i64 (mb + os))) B (.slice (some ⟨gl, 0, none⟩) n cl) (.slice (some ⟨gb, 0, none⟩) n cb) sv (ms.set i ⟨m6.a, m6.c, m6.M, mb + os, m6.s⟩) ∧ Ch (BB B (.slice (some ⟨gl, 0, none⟩) n cl) (.slice (some ⟨gb, 0, none⟩) n cb) sv ms) w (wC.setCell ⟨gb, i, none⟩ (.int .i64 (mb + os)))) := by
                  have g1 := HC.out.1.by'.set1 bmB_len (i := i) (m' := ⟨m6.a, m6.c, m6.M, mb + os, m6.s⟩) (u := .int .i64 (mb + os)) rfl (List.getElem?_eq_some_iff.1 HM6.out.1).1
                  have h1 := HC.out.1.putB HM6.out.1 (m' := ⟨m6.a, m6.c, m6.M, mb + os, m6.s⟩) (kk.mono (fun q _ e => by have e' : q = gb := e; rw [e']; rfl)) g1 rfl rfl rfl
                  rw [List.set_set] at h1
                  exact ⟨h1, HC.out.2.trans kk (fun q _ e => .inr (.inr (.inl (by have e' : q = gb := e; rw [e']; rfl))))⟩
                replace hS : OpvAt (wC.setCell ⟨gb, i, none⟩ (.int .i64 (mb + os))) O6 ⟨kd, tw, (i : Int), os, oi⟩ ∧ BovAt (wC.setCell ⟨gb, i, none⟩ (.int .i64 (mb + os))) B (.slice (some ⟨gl, 0, none⟩) n cl) (.slice (some ⟨gb, 0, none⟩) n cb) sv := ⟨hS.1.ch kk (hgk _ _ _ hS.1 (by decide)), hS.2.ch kk (hgk _ _ _ hS.2 (by decide))⟩
                clear kk hgk
                go_wp2_with fail
                refine ⟨rfl, hK _ _ hS ?_⟩
                clear hK K
                refine MixH.done (by kernel_rfl) ?_
                clear hS
                go_wp2_with fail
                go_ret
                refine ⟨rfl, _, HG.out.1, ?_, ?_, HG.out.2⟩
                · have hp : pushE cs (i : Int) os = 0 := by rw [← HQ.out.2.2.2.2.2]; exact HE.out
                  have hi := HIN.out
                  unfold pushCs
                  rw [if_pos hp, Int.toNat_natCast]
                  have h2 := HQ.out.2.2.1.at' i m HM.out.1
                  refine HQ.out.2.2.1.set (by rw [HQ.out.2.2.2.2.1]; exact hi) ?_ ?_
                  · show m6.M = _
                    rw [HM6.out.2.2.1, h2.1]
                    rfl
                  · show mb + os = szL (joinC _ _ _).L
                    rw [← HM.out.2.2.1.2, h2.2]
                    simp only [joinC, szL_app, szL]
                    omega
                · have h3 := map_set_s (m' := ⟨m6.a, m6.c, m6.M, mb + os, m6.s⟩) HM.out.1 HM6.out.2.2.2
                  exact h3
    · have q2 : decide ((n : Int) ≤ (i : Int)) = true := decide_eq_true (by omega)
      have q3 : decide (n ≤ i) = true := decide_eq_true (by omega)
      have HE : Hid (e = 181) := by show _ = _; rw [HQ.out.2.2.2.2.2]; unfold pushE; rw [if_neg (by rw [HQ.out.2.2.2.2.1]; omega)]
      have HU : Hid (pushCs cs (i : Int) os oi = cs) := by show _ = _; unfold pushCs; rw [if_neg (by rw [← HQ.out.2.2.2.2.2, HE.out]; decide)]
      have qe : (e == 181) = true := by rw [HE.out]; rfl
      clear h1
      go_wp2_with fail
      go_ret
      exact ⟨rfl, ms, HZ.out.1, by rw [HU.out]; exact HQ.out.2.2.1, rfl, Ch.ofBelow HLX.out⟩
end Go.Proofs.Ytclkcpdghpaboaa
