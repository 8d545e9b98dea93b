/-
  RFb: lemmas of the proof of FlowPlays, and walks through the functions that it calls.
-/
import Derived.Test.YtclpeepnngegaaaGreatDoorP00
import Derived.Test.YtclpeepnngegaaaGreatDoorP25
namespace Go.Proofs.YtclpeepnngegaaaGreatDoor
open Go.RowKit Go.Maps
def rvC (c : CF) (a : Option Addr) (n k : Nat) : Array Value := #[.int .i64 c.mx, .int .i64 c.oV, .int .u8 (c.o 0 : Nat), .int .u8 (c.o 1 : Nat), .int .u8 (c.o 2 : Nat), .int .u8 (c.o 3 : Nat), .int .u8 (c.o 4 : Nat), .int .u8 (c.o 5 : Nat), .int .u8 (c.o 6 : Nat), .int .u8 (c.o 7 : Nat), .int .u8 (c.o 8 : Nat), .int .u8 (c.o 9 : Nat), .int .u8 (c.o 10 : Nat), .int .u8 (c.o 11 : Nat), .int .u8 (c.o 12 : Nat), .int .u8 (c.o 13 : Nat), .int .u8 (c.o 14 : Nat), .int .u8 (c.o 15 : Nat), .int .i64 c.lo, .int .i64 c.hi, .int .i64 c.sy, .int .i64 c.tc, .int .i64 c.fi, .int .i64 c.ud, .int .i64 c.ic, .slice a n k]
theorem Tryz.size_rvt : (Tryz.prog.info? 36).map (·.size) = some 26 := by kernel_rfl
def RvtAt (w : World) (O : Nat) (cc : CF) (ad : Option Addr) (nn : Nat) (kk : Nat) : Prop := w.heap[O]? = some (.cells (rvC cc ad nn kk) 36 (0, 0))
section
variable {w : World} {O : Nat} {cc : CF} {ad : Option Addr} {nn : Nat} {kk : Nat} (k : RvtAt w O cc ad nn kk)
include k
theorem RvtAt.lt : O < w.heap.size := (Array.getElem?_eq_some_iff.1 k).1
theorem RvtAt.ch {S : Nat → Prop} {w' : World} (c : Ch S w w') (hS : ¬ S O) : RvtAt w' O cc ad nn kk := (c.block O k.lt hS).trans k
theorem RvtAt.below {w' : World} (c : Below w.heap.size w w') : RvtAt w' O cc ad nn kk := (c.block O k.lt).trans k
theorem RvtAt.cell (i : Nat) : w.cell? ⟨O, i, none⟩ = (rvC cc ad nn kk)[i]? := by unfold RvtAt at k; simp [World.cell?, k]
theorem RvtAt.fz (j : Nat) : w.frozen? ⟨O, j, none⟩ = false := by unfold RvtAt at k; simp [World.frozen?, k]
end
theorem rvt_new (w : World) (cc : CF) (ad : Option Addr) (nn : Nat) (kk : Nat) : RvtAt (w.alloc (.cells (rvC cc ad nn kk) 36)) w.heap.size cc ad nn kk := heap_alloc_new _ _
theorem wpList_load_rvt {ops : Array Oper} {rest : List Oper} {o : Oper} {a : Act} {w : World} {Q : Exit → Act → World → Prop} (x : Operand) (ho : o.op = .load 36 x) (O : Nat) (cc : CF) (ad : Option Addr) (nn : Nat) (kk : Nat) (hx : a.eval x = .pointer (some ⟨O, 0, none⟩)) (hb : RvtAt w O cc ad nn kk)
 (hw : Region.wanted o (yielded ops a.tmps) = true) (hh : wpList Tryz.prog ops Q rest (a.put o.dst (.agg (rvC cc ad nn kk))) w) : wpList Tryz.prog ops Q (o :: rest) a w := by
 refine wpList_step fun K hK => ?_
 rw [if_pos hw]
 exact wp_load_row 36 x ho O hx _ _ _ _ hb Tryz.underlying36 rfl Tryz.size_rvt (hK _ _ hh)
theorem wpList_store_rvt {ops : Array Oper} {rest : List Oper} {o : Oper} {a : Act} {w : World} {Q : Exit → Act → World → Prop} (x y : Operand) (ho : o.op = .store 36 x y) (hd : o.dst = none) (O : Nat) (cc : CF) (ad : Option Addr) (nn : Nat) (kk : Nat) (cc' : CF) (ad' : Option Addr) (nn' : Nat) (kk' : Nat) (hx : a.eval x = .pointer (some ⟨O, 0, none⟩)) (hy : a.eval y = .agg (rvC cc' ad' nn' kk')) (hb : RvtAt w O cc ad nn kk)
 (hw : Region.wanted o (yielded ops a.tmps) = true) (hh : ∀ w', RvtAt w' O cc' ad' nn' kk' → Ch (fun q => q = O) w w' → wpList Tryz.prog ops Q rest a w') : wpList Tryz.prog ops Q (o :: rest) a w := by
 refine wpList_step fun K hK => ?_
 rw [if_pos hw]
 refine wp_store_row 36 x y ho O (rvC cc' ad' nn' kk') hx hy _ (rvC cc ad nn kk) hb Tryz.size_rvt rfl (by simp [rvC, Value.oneCell']) (hK _ _ ?_)
 rw [hd]
 refine hh _ (setRow_heap w O _ _ _ _ hb) ⟨rfl, rfl, rfl, ?_, ?_⟩
 · simp [World.setRow]
 · intro k hk hne
   simp only [World.setRow]
   rw [Array.getElem?_modify, if_neg (fun e => hne e.symm)]
theorem wpList_alloc_rvt {ops : Array Oper} {rest : List Oper} {o : Oper} {a : Act} {w : World} {Q : Exit → Act → World → Prop} (ho : o.op = .alloc 36) (hw : Region.wanted o (yielded ops a.tmps) = true)
 (h : wpList Tryz.prog ops Q rest (a.put o.dst (.pointer (some ⟨w.heap.size, 0, none⟩))) (w.alloc (.cells (rvC cz none 0 0) 36))) : wpList Tryz.prog ops Q (o :: rest) a w := by
 refine wpList_step fun K hK => ?_
 rw [if_pos hw]
 have hrun : (execOp a.eval o).run Tryz.prog w = .ok (.value (.pointer (some ⟨w.heap.size, 0, none⟩))) (w.alloc (.cells (rvC cz none 0 0) 36)) := by
  obtain ⟨dst, op, type, pos, after, guard⟩ := o
  simp only at ho
  subst ho
  simp only [execOp]
  go_simp
  rfl
 unfold Oper.wp
 rw [hrun]
 exact hK _ _ h
theorem yields_rvt {ops : Array Oper} {o : Oper} {a : Act} {S : World → Prop} (x : Operand) (ho : o.op = .load 36 x) (O off : Nat) (cc : CF) (ad : Option Addr) (nn : Nat) (kk : Nat) (hx : a.eval x = .pointer (some ⟨O, off, none⟩)) (hw : Region.wanted o (yielded ops a.tmps) = true) (hS : ∀ w, S w → w.rangeAt O off (rvC cc ad nn kk).toList) : YieldsIf Tryz.prog ops S o (.agg (rvC cc ad nn kk)) a :=
 yieldsIf_load_mid hw 36 x ho O off hx (rvC cc ad nn kk).toList _ hS Tryz.underlying36 rfl Tryz.size_rvt
theorem wpList_mid_rvt {ops : Array Oper} {rest : List Oper} {o : Oper} {a : Act} {w : World} {Q : Exit → Act → World → Prop} (x : Operand) (ho : o.op = .load 36 x) (O off : Nat) (cc : CF) (ad : Option Addr) (nn : Nat) (kk : Nat) (hx : a.eval x = .pointer (some ⟨O, off, none⟩)) (hb : w.rangeAt O off (rvC cc ad nn kk).toList)
 (hw : Region.wanted o (yielded ops a.tmps) = true) (h : wpList Tryz.prog ops Q rest (a.put o.dst (.agg (rvC cc ad nn kk))) w) : wpList Tryz.prog ops Q (o :: rest) a w := by
 refine wpList_step fun K hK => ?_
 rw [if_pos hw]
 exact wp_load_mid 36 x ho O off hx (rvC cc ad nn kk).toList _ hb Tryz.underlying36 rfl Tryz.size_rvt (hK _ _ h)
theorem results_rvt {fn : Func} {p : Tmp} (h : fn.results = #[.cell p 36]) (tmps : Array Value) (w : World) (O : Nat) (cc : CF) (ad : Option Addr) (nn : Nat) (kk : Nat) (hp : tmps.getD p undef = .pointer (some ⟨O, 0, none⟩)) (hb : RvtAt w O cc ad nn kk) :
 (results fn tmps).run Tryz.prog w = .ok (.agg (rvC cc ad nn kk)) w :=
 results_cell_row h tmps w O _ (rvC cc ad nn kk) _ _ hp hb Tryz.underlying36 rfl Tryz.size_rvt
theorem RvtAt.out {w : World} {O : Nat} {c : CF} {a : Option Addr} {n k : Nat} (h : RvtAt w O c a n k) : w.rangeAt O 1 (ipCells c.oV c.o).toList := by
 intro j v hj
 rw [h.cell]
 have hl : j < 17 := (List.getElem?_eq_some_iff.1 hj).1
 have : j = 0 ∨ j = 1 ∨ j = 2 ∨ j = 3 ∨ j = 4 ∨ j = 5 ∨ j = 6 ∨ j = 7 ∨ j = 8 ∨ j = 9 ∨ j = 10 ∨ j = 11 ∨ j = 12 ∨ j = 13 ∨ j = 14 ∨ j = 15 ∨ j = 16 := by omega
 clear hl
 rcases this with rfl | rfl | rfl | rfl | rfl | rfl | rfl | rfl | rfl | rfl | rfl | rfl | rfl | rfl | rfl | rfl | rfl <;> exact hj
theorem tpB_ref {x : TU} (hx : x.Wf) : tpB x = (vR x.sV x.s && (vR x.dV x.d && (x.sV == x.dV && (decide ((0 : Int) ≤ x.sp) && (decide (x.sp ≤ 65535) && (decide ((0 : Int) ≤ x.dp) && decide (x.dp ≤ 65535))))))) := by
 unfold tpB inR
 rw [vld_vR _ _ hx.s, vld_vR _ _ hx.d]
 simp only [Bool.and_assoc]
set_option maxHeartbeats 1600000 in
set_option maxRecDepth 100000 in
theorem isTupleR_any (x : TU) (w : World) (hx : x.Wf) : Calls Tryz.prog 52 #[.agg (tuC x)] w fun r w' => r = .returned (.bool (tpB x)) ∧ Below w.heap.size w w' := by
 have ht := tpB_ref hx
 clear hx
 obtain ⟨W, B, HSZX, HOX, HLX, HWX, hb⟩ := zBx w (tuC x) 38
 have HBX : Hid (TupAt W B x) := hb
 obtain ⟨CX, hC⟩ : ∃ C, C = tuC x := ⟨_, rfl⟩
 rw [← hC] at HWX ⊢
 clear hb hC
 obtain ⟨b1, hb1⟩ : ∃ b, vR x.sV x.s = b := ⟨_, rfl⟩
 obtain ⟨b2, hb2⟩ : ∃ b, vR x.dV x.d = b := ⟨_, rfl⟩
 obtain ⟨sv, hsv⟩ : ∃ b, x.sV = b := ⟨_, rfl⟩
 obtain ⟨dv, hdv⟩ : ∃ b, x.dV = b := ⟨_, rfl⟩
 obtain ⟨sp, hsp⟩ : ∃ b, x.sp = b := ⟨_, rfl⟩
 obtain ⟨dp, hdp⟩ : ∃ b, x.dp = b := ⟨_, rfl⟩
 obtain ⟨tb, htb⟩ : ∃ b, tpB x = b := ⟨_, rfl⟩
 have Q1 : Hid _ := validR_any x.sV x.s W
 rw [hb1] at Q1
 have Q2 : Hid (∀ A : World, Calls Tryz.prog 45 #[.agg (ipCells x.dV x.d)] A fun r w' => r = .returned (.bool b2) ∧ Below A.heap.size A w') := fun A => by rw [← hb2]; exact validR_any x.dV x.d A
 rw [hb1, hb2, hsv, hdv, hsp, hdp, htb] at ht
 rw [htb]
 obtain ⟨a1, ha1⟩ : ∃ b, decide ((0 : Int) ≤ sp) = b := ⟨_, rfl⟩
 obtain ⟨a2, ha2⟩ : ∃ b, decide (sp ≤ 65535) = b := ⟨_, rfl⟩
 obtain ⟨a3, ha3⟩ : ∃ b, decide ((0 : Int) ≤ dp) = b := ⟨_, rfl⟩
 obtain ⟨a4, ha4⟩ : ∃ b, decide (dp ≤ 65535) = b := ⟨_, rfl⟩
 rw [ha1, ha2, ha3, ha4] at ht
 have hg1 : decide (sp ≥ 0) = a1 := ha1
 have hg3 : decide (dp ≥ 0) = a3 := ha3
 have HC : Hid (∀ A : World, TupAt A B x → A.cell? ⟨B, 1, none⟩ = some (.int .i64 sv) ∧ A.cell? ⟨B, 18, none⟩ = some (.int .i64 dv) ∧ A.cell? ⟨B, 35, none⟩ = some (.int .i64 sp) ∧ A.cell? ⟨B, 36, none⟩ = some (.int .i64 dp)) := fun A hA => by
  rw [← hsv, ← hdv, ← hsp, ← hdp]
  exact ⟨hA.c1, hA.c18, hA.c35, hA.c36⟩
 have HT : Hid (tb = (b1 && (b2 && (sv == dv && (a1 && (a2 && (a3 && a4))))))) := ht
 clear ht hb1 hb2 hsv hdv hsp hdp htb
 go_enter Tryz.func52, Tryz.ntmps52
 go_wp2_with (first | (rw [HOX.out, HWX.out]) | (refine wpList_mid_ipr (.tmp 3) rfl B 1 x.sV x.s rfl HBX.out.src rfl ?_))
 refine Calls.mono Q1.out ?_
 rintro e1 w1 ⟨rfl, d1⟩
 have H1 : Hid (TupAt w1 B x ∧ Below w.heap.size w w1) := ⟨HBX.out.below d1, bthen HLX.out d1⟩
 clear d1 Q1
 cases b1 with
 | false =>
  have HR : Hid (tb = false) := by have h := HT.out; rwa [Bool.false_and] at h
  go_wp2
  go_ret
  exact ⟨by have h := HR.out; subst h; rfl, H1.out.2⟩
 | true =>
  go_wp2_with (first | (refine wpList_mid_ipr (.tmp 8) rfl B 18 x.dV x.d rfl H1.out.1.dst rfl ?_))
  refine Calls.mono (Q2.out w1) ?_
  rintro e2 w2 ⟨rfl, d2⟩
  have H2 : Hid (TupAt w2 B x ∧ Below w.heap.size w w2) := ⟨H1.out.1.below d2, bthen H1.out.2 d2⟩
  clear d2 H1
  cases b2 with
  | false =>
   have HR : Hid (tb = false) := by have h := HT.out; rwa [Bool.true_and, Bool.false_and] at h
   go_wp2
   go_ret
   exact ⟨by have h := HR.out; subst h; rfl, H2.out.2⟩
  | true =>
   obtain ⟨x1, x18, x35, x36⟩ := HC.out w2 H2.out.1
   obtain ⟨eq, heq⟩ : ∃ b, (sv == dv) = b := ⟨_, rfl⟩
   have hne : (sv != dv) = !eq := by rw [← heq]; rfl
   have HR : Hid (tb = (eq && (a1 && (a2 && (a3 && a4))))) := by have h := HT.out; rwa [Bool.true_and, Bool.true_and, heq] at h
   clear heq
   cases eq with
   | false =>
    go_wp2
    go_ret
    exact ⟨by have h := HR.out; subst h; rfl, H2.out.2⟩
   | true =>
    cases a1 with
    | false =>
     go_wp2
     go_ret
     exact ⟨by have h := HR.out; subst h; rfl, H2.out.2⟩
    | true =>
     cases a2 with
     | false =>
      go_wp2
      go_ret
      exact ⟨by have h := HR.out; subst h; rfl, H2.out.2⟩
     | true =>
      cases a3 with
      | false =>
       go_wp2
       go_ret
       exact ⟨by have h := HR.out; subst h; rfl, H2.out.2⟩
      | true =>
       cases a4 with
       | false =>
        go_wp2
        go_ret
        exact ⟨by have h := HR.out; subst h; rfl, H2.out.2⟩
       | true =>
        go_wp2
        go_ret
        exact ⟨by have h := HR.out; subst h; rfl, H2.out.2⟩
theorem ec_ref {x : TU} (h : tpB x = true) : (x.pr != ecN x.sV) = !(ecB x) := by
 unfold tpB at h
 simp only [Bool.and_eq_true, beq_iff_eq] at h
 have h46 : x.sV = 4 ∨ x.sV = 6 := by
  cases h4 : x.sV == 4 with
  | true => exact .inl (by simpa using h4)
  | false => exact .inr (by simpa using vld_46 h.1.1.1.1 h4)
 unfold ecN ecB
 rcases h46 with h4 | h6
 · rw [h4]
   simp
   rfl
 · rw [h6]
   simp
   rfl
set_option maxHeartbeats 1600000 in
set_option maxRecDepth 100000 in
theorem wrongR_any (x : TU) (w : World) (hx : x.Wf) : Calls Tryz.prog 31 #[.agg (tuC x)] w fun r w' => r = .returned (.int .i64 (ckE x)) ∧ Below w.heap.size w w' := by
 have Q1 : Hid (∀ A : World, Calls Tryz.prog 52 #[.agg (tuC x)] A fun r w' => r = .returned (.bool (tpB x)) ∧ Below A.heap.size A w') := fun A => isTupleR_any x A hx
 clear hx
 obtain ⟨W, B, HSZX, HOX, HLX, HWX, hb⟩ := zBx w (tuC x) 38
 have HBX : Hid (TupAt W B x) := hb
 obtain ⟨CX, hC⟩ : ∃ C, C = tuC x := ⟨_, rfl⟩
 rw [← hC] at HWX ⊢
 clear hb hC
 obtain ⟨tb, htb⟩ : ∃ b, tpB x = b := ⟨_, rfl⟩
 rw [htb] at Q1
 have HTB : Hid (tpB x = tb) := htb
 clear htb
 obtain ⟨pr, hpr⟩ : ∃ b, x.pr = b := ⟨_, rfl⟩
 obtain ⟨sv, hsv⟩ : ∃ b, x.sV = b := ⟨_, rfl⟩
 have HC : Hid (∀ A : World, TupAt A B x → A.cell? ⟨B, 0, none⟩ = some (.int .i64 pr) ∧ A.cell? ⟨B, 1, none⟩ = some (.int .i64 sv)) := fun A hA => by
  rw [← hsv, ← hpr]
  exact ⟨hA.c0, hA.c1⟩
 have HP : Hid (x.pr = pr ∧ x.sV = sv) := ⟨hpr, hsv⟩
 clear hpr hsv
 obtain ⟨ck, hck⟩ : ∃ c, ckE x = c := ⟨_, rfl⟩
 have HCK : Hid (ckE x = ck) := hck
 rw [hck]
 clear hck
 go_enter Tryz.func31, Tryz.ntmps31
 go_wp2_with (first | (rw [HOX.out, HWX.out]) | (refine wpList_load_tup (.tmp 1) rfl B x rfl HBX.out rfl ?_))
 refine Calls.mono (Q1.out W) ?_
 rintro e1 w1 ⟨rfl, d1⟩
 have H1 : Hid (TupAt w1 B x ∧ Below w.heap.size w w1) := ⟨HBX.out.below d1, bthen HLX.out d1⟩
 clear d1 Q1
 cases tb with
 | false =>
  have HR : Hid (ck = 170) := by show ck = 170; rw [← HCK.out]; unfold ckE; rw [HTB.out, if_neg (by decide)]
  go_wp2
  go_ret
  exact ⟨by have h := HR.out; subst h; rfl, H1.out.2⟩
 | true =>
  obtain ⟨n6, h6⟩ : ∃ b, (pr != 6) = b := ⟨_, rfl⟩
  obtain ⟨n17, h17⟩ : ∃ b, (pr != 17) = b := ⟨_, rfl⟩
  obtain ⟨ne, hne⟩ : ∃ b, (pr != ecN sv) = b := ⟨_, rfl⟩
  have HR : Hid (ck = if (n6 && n17 && ne) = true then 174 else 0) := by
   rw [← HCK.out]
   unfold ckE
   rw [HTB.out, if_pos rfl, ← h6, ← h17, ← hne, ← HP.out.1, ← HP.out.2, ec_ref HTB.out]
   rfl
  cases n6 with
  | false =>
   go_upto_region 3 with fail
   refine MixH.start (fun A => TupAt A B x) (by kernel_rfl) ?_
   obtain ⟨wA, hwA⟩ : ∃ wA, wA = w1.drew := ⟨_, rfl⟩
   have bdr := zDr hwA
   have hS : TupAt wA B x := H1.out.1.below bdr
   have HA : Hid (Below w.heap.size w wA) := bthen H1.out.2 bdr
   rw [← hwA]
   clear hwA bdr
   refine MixH.tks [true] 16 hS (fun K hK => ?_)
   simp only [Mix.pick]
   repeat (go_big_quiet_step (fail))
   refine wpQuiet_nil (hK _ ?_)
   clear hK K
   refine MixH.tk 15 1 rfl (.int .i64 pr) (yields_int (.tmp 6) rfl ⟨B, 0, none⟩ (.int .i64 pr) rfl rfl (fun A hA => (HC.out A hA).1)) hS (fun a' ha => ?_)
   simp only [zP1, zP2, zP3, zP4] at ha
   subst ha
   refine MixH.tks [false, false, true, true, true] 12 hS (fun K hK => ?_)
   simp only [Mix.pick]
   repeat (go_big_quiet_step (fail))
   refine wpQuiet_nil (hK _ ?_)
   clear hK K
   refine MixH.tk 11 5 rfl (undef) (.inr ⟨rfl, rfl⟩) hS (fun a' ha => ?_)
   simp only [zP1, zP2, zP3, zP4] at ha
   subst ha
   refine MixH.tks [false, false, false, false, false, false, true, true, true, true, false, true, true] 5 hS (fun K hK => ?_)
   simp only [Mix.pick]
   repeat (go_big_quiet_step (fail))
   refine wpQuiet_nil (hK _ ?_)
   clear hK K
   refine MixH.tk 4 10 rfl (undef) (.inr ⟨rfl, rfl⟩) hS (fun a' ha => ?_)
   simp only [zP1, zP2, zP3, zP4] at ha
   subst ha
   refine MixH.tk 3 13 rfl (undef) (.inr ⟨rfl, rfl⟩) hS (fun a' ha => ?_)
   simp only [zP1, zP2, zP3, zP4] at ha
   subst ha
   refine MixH.tk 2 14 rfl (undef) (.inr ⟨rfl, rfl⟩) hS (fun a' ha => ?_)
   simp only [zP1, zP2, zP3, zP4] at ha
   subst ha
   refine MixH.tks [false, false, false, false, false, false, false, false, false, false, false, false, false, false, false, true, true] 0 hS (fun K hK => ?_)
   simp only [Mix.pick]
   repeat (go_big_quiet_step (fail))
   refine wpQuiet_nil (hK _ ?_)
   clear hK K
   refine MixH.done (by kernel_rfl) ?_
   clear hS
   go_wp2
   go_ret
   exact ⟨by have h := HR.out; subst h; rfl, HA.out⟩
  | true =>
   cases n17 with
   | false =>
    go_upto_region 3 with fail
    refine MixH.start (fun A => TupAt A B x) (by kernel_rfl) ?_
    obtain ⟨wA, hwA⟩ : ∃ wA, wA = w1.drew := ⟨_, rfl⟩
    have bdr := zDr hwA
    have hS : TupAt wA B x := H1.out.1.below bdr
    have HA : Hid (Below w.heap.size w wA) := bthen H1.out.2 bdr
    rw [← hwA]
    clear hwA bdr
    refine MixH.tks [true] 16 hS (fun K hK => ?_)
    simp only [Mix.pick]
    repeat (go_big_quiet_step (fail))
    refine wpQuiet_nil (hK _ ?_)
    clear hK K
    refine MixH.tk 15 1 rfl (.int .i64 pr) (yields_int (.tmp 6) rfl ⟨B, 0, none⟩ (.int .i64 pr) rfl rfl (fun A hA => (HC.out A hA).1)) hS (fun a' ha => ?_)
    simp only [zP1, zP2, zP3, zP4] at ha
    subst ha
    refine MixH.tks [false, false, true, true, true] 12 hS (fun K hK => ?_)
    simp only [Mix.pick]
    repeat (go_big_quiet_step (fail))
    refine wpQuiet_nil (hK _ ?_)
    clear hK K
    refine MixH.tk 11 5 rfl (.int .i64 pr) (yields_int (.tmp 10) rfl ⟨B, 0, none⟩ (.int .i64 pr) rfl rfl (fun A hA => (HC.out A hA).1)) hS (fun a' ha => ?_)
    simp only [zP1, zP2, zP3, zP4] at ha
    subst ha
    refine MixH.tks [false, false, false, false, false, false, true, true, true, true, false, true, true] 5 hS (fun K hK => ?_)
    simp only [Mix.pick]
    repeat (go_big_quiet_step (fail))
    refine wpQuiet_nil (hK _ ?_)
    clear hK K
    refine MixH.tk 4 10 rfl (undef) (.inr ⟨rfl, rfl⟩) hS (fun a' ha => ?_)
    simp only [zP1, zP2, zP3, zP4] at ha
    subst ha
    refine MixH.tk 3 13 rfl (undef) (.inr ⟨rfl, rfl⟩) hS (fun a' ha => ?_)
    simp only [zP1, zP2, zP3, zP4] at ha
    subst ha
    refine MixH.tk 2 14 rfl (undef) (.inr ⟨rfl, rfl⟩) hS (fun a' ha => ?_)
    simp only [zP1, zP2, zP3, zP4] at ha
    subst ha
    refine MixH.tks [false, false, false, false, false, false, false, false, false, false, false, false, false, false, false, true, true] 0 hS (fun K hK => ?_)
    simp only [Mix.pick]
    repeat (go_big_quiet_step (fail))
    refine wpQuiet_nil (hK _ ?_)
    clear hK K
    refine MixH.done (by kernel_rfl) ?_
    clear hS
    go_wp2
    go_ret
    exact ⟨by have h := HR.out; subst h; rfl, HA.out⟩
   | true =>
    cases ne with
    | false =>
     go_upto_region 3 with fail
     refine MixH.start (fun A => TupAt A B x) (by kernel_rfl) ?_
     obtain ⟨wA, hwA⟩ : ∃ wA, wA = w1.drew := ⟨_, rfl⟩
     have bdr := zDr hwA
     have hS : TupAt wA B x := H1.out.1.below bdr
     have HA : Hid (Below w.heap.size w wA) := bthen H1.out.2 bdr
     rw [← hwA]
     clear hwA bdr
     refine MixH.tks [true] 16 hS (fun K hK => ?_)
     simp only [Mix.pick]
     repeat (go_big_quiet_step (fail))
     refine wpQuiet_nil (hK _ ?_)
     clear hK K
     refine MixH.tk 15 1 rfl (.int .i64 pr) (yields_int (.tmp 6) rfl ⟨B, 0, none⟩ (.int .i64 pr) rfl rfl (fun A hA => (HC.out A hA).1)) hS (fun a' ha => ?_)
     simp only [zP1, zP2, zP3, zP4] at ha
     subst ha
     refine MixH.tks [false, false, true, true, true] 12 hS (fun K hK => ?_)
     simp only [Mix.pick]
     repeat (go_big_quiet_step (fail))
     refine wpQuiet_nil (hK _ ?_)
     clear hK K
     refine MixH.tk 11 5 rfl (.int .i64 pr) (yields_int (.tmp 10) rfl ⟨B, 0, none⟩ (.int .i64 pr) rfl rfl (fun A hA => (HC.out A hA).1)) hS (fun a' ha => ?_)
     simp only [zP1, zP2, zP3, zP4] at ha
     subst ha
     refine MixH.tks [false, false, false, false, false, false, true, true, true, true, false, true, true] 5 hS (fun K hK => ?_)
     simp only [Mix.pick]
     repeat (go_big_quiet_step (fail))
     refine wpQuiet_nil (hK _ ?_)
     clear hK K
     refine MixH.tk 4 10 rfl (.int .i64 pr) (yields_int (.tmp 15) rfl ⟨B, 0, none⟩ (.int .i64 pr) rfl rfl (fun A hA => (HC.out A hA).1)) hS (fun a' ha => ?_)
     simp only [zP1, zP2, zP3, zP4] at ha
     subst ha
     refine MixH.tk 3 13 rfl (.int .i64 sv) (yields_int (.tmp 18) rfl ⟨B, 1, none⟩ (.int .i64 sv) rfl rfl (fun A hA => (HC.out A hA).2)) hS (fun a' ha => ?_)
     simp only [zP1, zP2, zP3, zP4] at ha
     subst ha
     refine MixH.one [false, false, false, false, false, false, false, false, false, false, false, false, false, false, true] 2 14 _ rfl rfl (by kernel_rfl) (by kernel_rfl) (fun K hK => ?_)
     simp only [Mix.pick]
     go_wp2_with fail
     refine Calls.mono (echoR_any sv wA) ?_
     rintro e9 w9 ⟨rfl, rfl⟩
     go_wp2_with fail
     refine ⟨rfl, hK _ _ hS ?_⟩
     clear hK K
     refine MixH.tks [false, false, false, false, false, false, false, false, false, false, false, false, false, false, false, true, true] 0 hS (fun K hK => ?_)
     simp only [Mix.pick]
     repeat (go_big_quiet_step (fail))
     refine wpQuiet_nil (hK _ ?_)
     clear hK K
     refine MixH.done (by kernel_rfl) ?_
     clear hS
     go_wp2
     go_ret
     exact ⟨by have h := HR.out; subst h; rfl, HA.out⟩
    | true =>
     go_upto_region 3 with fail
     refine MixH.start (fun A => TupAt A B x) (by kernel_rfl) ?_
     obtain ⟨wA, hwA⟩ : ∃ wA, wA = w1.drew := ⟨_, rfl⟩
     have bdr := zDr hwA
     have hS : TupAt wA B x := H1.out.1.below bdr
     have HA : Hid (Below w.heap.size w wA) := bthen H1.out.2 bdr
     rw [← hwA]
     clear hwA bdr
     refine MixH.tks [true] 16 hS (fun K hK => ?_)
     simp only [Mix.pick]
     repeat (go_big_quiet_step (fail))
     refine wpQuiet_nil (hK _ ?_)
     clear hK K
     refine MixH.tk 15 1 rfl (.int .i64 pr) (yields_int (.tmp 6) rfl ⟨B, 0, none⟩ (.int .i64 pr) rfl rfl (fun A hA => (HC.out A hA).1)) hS (fun a' ha => ?_)
     simp only [zP1, zP2, zP3, zP4] at ha
     subst ha
     refine MixH.tks [false, false, true, true, true] 12 hS (fun K hK => ?_)
     simp only [Mix.pick]
     repeat (go_big_quiet_step (fail))
     refine wpQuiet_nil (hK _ ?_)
     clear hK K
     refine MixH.tk 11 5 rfl (.int .i64 pr) (yields_int (.tmp 10) rfl ⟨B, 0, none⟩ (.int .i64 pr) rfl rfl (fun A hA => (HC.out A hA).1)) hS (fun a' ha => ?_)
     simp only [zP1, zP2, zP3, zP4] at ha
     subst ha
     refine MixH.tks [false, false, false, false, false, false, true, true, true, true, false, true, true] 5 hS (fun K hK => ?_)
     simp only [Mix.pick]
     repeat (go_big_quiet_step (fail))
     refine wpQuiet_nil (hK _ ?_)
     clear hK K
     refine MixH.tk 4 10 rfl (.int .i64 pr) (yields_int (.tmp 15) rfl ⟨B, 0, none⟩ (.int .i64 pr) rfl rfl (fun A hA => (HC.out A hA).1)) hS (fun a' ha => ?_)
     simp only [zP1, zP2, zP3, zP4] at ha
     subst ha
     refine MixH.tk 3 13 rfl (.int .i64 sv) (yields_int (.tmp 18) rfl ⟨B, 1, none⟩ (.int .i64 sv) rfl rfl (fun A hA => (HC.out A hA).2)) hS (fun a' ha => ?_)
     simp only [zP1, zP2, zP3, zP4] at ha
     subst ha
     refine MixH.one [false, false, false, false, false, false, false, false, false, false, false, false, false, false, true] 2 14 _ rfl rfl (by kernel_rfl) (by kernel_rfl) (fun K hK => ?_)
     simp only [Mix.pick]
     go_wp2_with fail
     refine Calls.mono (echoR_any sv wA) ?_
     rintro e9 w9 ⟨rfl, rfl⟩
     go_wp2_with fail
     refine ⟨rfl, hK _ _ hS ?_⟩
     clear hK K
     refine MixH.tks [false, false, false, false, false, false, false, false, false, false, false, false, false, false, false, true, true] 0 hS (fun K hK => ?_)
     simp only [Mix.pick]
     repeat (go_big_quiet_step (fail))
     refine wpQuiet_nil (hK _ ?_)
     clear hK K
     refine MixH.done (by kernel_rfl) ?_
     clear hS
     go_wp2
     go_ret
     exact ⟨by have h := HR.out; subst h; rfl, HA.out⟩
set_option maxHeartbeats 1600000 in
set_option maxRecDepth 100000 in
theorem reverseR_any (x : TU) (w : World) : Calls Tryz.prog 14 #[.agg (tuC x)] w fun r w' => r = .returned (.agg (tuC x.rev)) ∧ Below w.heap.size w w' := by
 obtain ⟨W, B, HSZX, HOX, HLX, HWX, hb⟩ := zBx w (tuC x) 38
 have HBX : Hid (TupAt W B x) := hb
 obtain ⟨CX, hC⟩ : ∃ C, C = tuC x := ⟨_, rfl⟩
 rw [← hC] at HWX ⊢
 clear hb hC
 obtain ⟨Y, O, -, HOY, HLY, HEY, hb⟩ := zBx W (tuC xz) 38
 have HNY : Hid (TupAt Y O xz) := hb
 clear hb
 have H0 : Hid (TupAt Y B x ∧ TupAt Y O xz ∧ Below w.heap.size w Y ∧ w.heap.size ≤ O) := ⟨HBX.out.below HLY.out, HNY.out, bthen HLX.out HLY.out, by have h1 := HSZX.out; have h2 := HOY.out; omega⟩
 have x0_ := H0.out.1.c0
 have x35_ := H0.out.1.c35
 have x36_ := H0.out.1.c36
 go_enter Tryz.func14, Tryz.ntmps14
 go_wp2_with (first | (rw [HOX.out, HWX.out]) | (refine wpList_alloc_tup rfl rfl ?_; rw [HEY.out, HOY.out]) | (refine wpList_mid_ipr (.tmp 5) rfl B 18 x.dV x.d rfl H0.out.1.dst rfl ?_) | (refine wpList_mid_ipr (.tmp 7) rfl B 1 x.sV x.s rfl H0.out.1.src rfl ?_) | (refine wpList_build_tu _ _ _ _ _ rfl x.pr x.dV x.d x.sV x.s x.dp x.sp rfl rfl rfl rfl rfl rfl ?_) | (refine wpList_store_tup (.tmp 2) (.tmp 13) rfl rfl O xz x.rev rfl rfl H0.out.2.1 rfl ?_))
 intro w2 h2 k2
 go_wp2_with fail
 refine bodyPost_ret (results_tup rfl _ _ O _ rfl h2) rfl ?_
 exact ⟨rfl, H0.out.2.2.1.trans (k2.below (fun q hq => by have hq' : q = O := hq; have := H0.out.2.2.2; omega) H0.out.2.2.1.size)⟩
set_option maxHeartbeats 1600000 in
set_option maxRecDepth 100000 in
theorem outsideR_any (c : CF) (a : Option Addr) (n k : Nat) (f : FN) (w : World) : Calls Tryz.prog 35 #[.agg (rvC c a n k), .agg (flC f)] w fun r w' => r = .returned (.agg (tuC (ouT c f))) ∧ Below w.heap.size w w' := by
 obtain ⟨Wb, B, HSZX, HOX, HLX, HWX, hb⟩ := zBx w (rvC c a n k) 36
 have HBX : Hid (RvtAt Wb B c a n k) := hb
 obtain ⟨CX, hC⟩ : ∃ C, C = rvC c a n k := ⟨_, rfl⟩
 rw [← hC] at HWX ⊢
 clear hb hC
 obtain ⟨Wd, D, HSZZ, HOZ, HLZ, HWZ, hb⟩ := zBx Wb (flC f) 72
 have HBZ : Hid (FloAt Wd D f) := hb
 obtain ⟨CZ, hC⟩ : ∃ C, C = flC f := ⟨_, rfl⟩
 rw [← hC] at HWZ ⊢
 clear hb hC
 obtain ⟨Ya, O, -, HOY, HLY, HEY, hb⟩ := zBx Wd (tuC xz) 38
 have HNY : Hid (TupAt Ya O xz) := hb
 clear hb
 obtain ⟨Y2, O2, -, HOV, HLV, HEV, hb⟩ := zBx Ya (tuC xz) 38
 have HNV : Hid (TupAt Y2 O2 xz) := hb
 clear hb
 have H0 : Hid (RvtAt Y2 B c a n k ∧ FloAt Y2 D f ∧ TupAt Y2 O xz ∧ TupAt Y2 O2 xz ∧ Below w.heap.size w Y2 ∧ (w.heap.size = B ∧ B < D ∧ D < O ∧ O < O2)) := by
  have b1 := bthen HLX.out HLZ.out
  have b2 := bthen b1 HLY.out
  refine ⟨((HBX.out.below HLZ.out).below HLY.out).below HLV.out, (HBZ.out.below HLY.out).below HLV.out, HNY.out.below HLV.out, HNV.out, bthen b2 HLV.out, HOX.out, ?_⟩
  have h1 := HOX.out; have h2 := HSZX.out; have h3 := HOZ.out; have h4 := HSZZ.out; have h5 := HOY.out; have h6 := HNY.out.lt; have h7 := HOV.out
  omega
 have HFY : Hid (FloAt Ya D f) := HBZ.out.below HLY.out
 go_enter Tryz.func35, Tryz.ntmps35
 go_upto_region 2 with (first | (rw [HOX.out, HWX.out]) | (rw [HOZ.out, HWZ.out]) | (refine wpList_alloc_tup rfl rfl ?_; first | rw [HEY.out, HOY.out] | rw [HEV.out, HOV.out]) | (refine wpList_mid_tup (.tmp 6) rfl D 0 f.x rfl HFY.out.tup rfl ?_) | (refine wpList_store_tup (.tmp 5) (.tmp 7) rfl rfl O2 xz f.x rfl rfl H0.out.2.2.2.1 rfl ?_; intro w2 h2 k2))
 have H2 : Hid (RvtAt w2 B c a n k ∧ FloAt w2 D f ∧ TupAt w2 O xz ∧ TupAt w2 O2 f.x ∧ Below w.heap.size w w2) := by
  obtain ⟨y1, y2, y3, y4, y5, y6⟩ := H0.out
  exact ⟨y1.ch k2 (by omega), y2.ch k2 (by omega), y3.ch k2 (by omega), h2, y5.trans (k2.below (fun q hq => by have hq' : q = O2 := hq; omega) y5.size)⟩
 clear h2 k2
 obtain ⟨sv, hsv⟩ : ∃ v, f.x.sV = v := ⟨_, rfl⟩
 obtain ⟨po, hpo⟩ : ∃ p, f.po = p := ⟨_, rfl⟩
 have c1 : w2.cell? ⟨O2, 1, none⟩ = some (.int .i64 sv) := by have h1 := H2.out.2.2.2.1.c1; rw [hsv] at h1; exact h1
 have HSV : Hid (f.x.sV = sv ∧ f.po = po) := ⟨hsv, hpo⟩
 clear hsv hpo
 by_cases h4 : sv = 4
 · have q4 : (sv == 4) = true := by simpa using h4
   have HGO : Hid (ouT c f = { f.x with sV := c.oV, s := c.o, sp := po }) := by
    show _ = _
    unfold ouT
    rw [HSV.out.1, q4, if_pos rfl, HSV.out.2]
   clear h4
   go_upto_region 4 with (first | (refine wpList_mid_ipr (.tmp 13) rfl B 1 c.oV c.o rfl H2.out.1.out rfl ?_) | (refine wpList_set_src (.tmp 15) (.tmp 14) rfl rfl O2 f.x c.oV c.o rfl rfl H2.out.2.2.2.1 rfl ?_; intro w3 h3 k3))
   obtain ⟨x3, hx3⟩ : ∃ x : TU, x = { f.x with sV := c.oV, s := c.o } := ⟨_, rfl⟩
   rw [← hx3] at h3
   have H3 : Hid (FloAt w3 D f ∧ TupAt w3 O xz ∧ TupAt w3 O2 x3 ∧ Below w.heap.size w w3) := by
    have y6 := H0.out.2.2.2.2.2
    exact ⟨H2.out.2.1.ch k3 (by omega), H2.out.2.2.1.ch k3 (by omega), h3, H2.out.2.2.2.2.trans (k3.below (fun q hq => by have hq' : q = O2 := hq; omega) H2.out.2.2.2.2.size)⟩
   have HG3 : Hid (ouT c f = { x3 with sp := po }) := by rw [hx3]; exact HGO.out
   clear h3 k3 c1 H2 hx3
   have c37 : w3.cell? ⟨D, 37, none⟩ = some (.int .i64 po) := by have h1 := H3.out.1.c37; rw [HSV.out.2] at h1; exact h1
   have c35 := H3.out.2.2.1.c35
   have z35 := H3.out.2.2.1.fz 35
   go_upto_region 5 with fail
   obtain ⟨w4, hw4⟩ : ∃ y, w3.setCell ⟨O2, 35, none⟩ (.int .i64 po) = y := ⟨_, rfl⟩
   have H4 : Hid (TupAt w4 O xz ∧ TupAt w4 O2 (ouT c f) ∧ Below w.heap.size w w4) := by
    have y6 := H0.out.2.2.2.2.2
    have h1 := TupAt.set (x' := { x3 with sp := po }) H3.out.2.2.1 35 (.int .i64 po) (by rfl)
    have k4 := (Ch.refl (fun q => q = O2) w3).set ⟨O2, 35, none⟩ (.int .i64 po) rfl
    rw [hw4] at h1 k4
    exact ⟨H3.out.2.1.ch k4 (by omega), by rw [HG3.out]; exact h1, H3.out.2.2.2.trans (k4.below (fun q hq => by have hq' : q = O2 := hq; omega) H3.out.2.2.2.size)⟩
   rw [hw4]
   clear hw4 c37 c35 z35 H3
   go_wp2_with (first | (refine wpList_load_tup (.tmp 5) rfl O2 (ouT c f) rfl H4.out.2.1 rfl ?_) | (refine wpList_store_tup (.tmp 4) (.tmp 19) rfl rfl O xz (ouT c f) rfl rfl H4.out.1 rfl ?_))
   intro w5 h5 k5
   have b5 : Below w.heap.size w w5 := by have y6 := H0.out.2.2.2.2.2; exact H4.out.2.2.trans (k5.below (fun q hq => by have hq' : q = O := hq; omega) H4.out.2.2.size)
   go_wp2_with fail
   refine bodyPost_ret (results_tup rfl _ _ O _ rfl h5) rfl ?_
   exact ⟨rfl, b5⟩
 · have q4 : (sv == 4) = false := by simpa using h4
   have HGO : Hid (ouT c f = f.x) := by
    show _ = _
    unfold ouT
    rw [HSV.out.1, q4, if_neg (by decide)]
   clear h4
   go_wp2_with (first | (refine wpList_load_tup (.tmp 5) rfl O2 f.x rfl H2.out.2.2.2.1 rfl ?_) | (refine wpList_store_tup (.tmp 4) (.tmp 19) rfl rfl O xz f.x rfl rfl H2.out.2.2.1 rfl ?_))
   intro w5 h5 k5
   have b5 : Below w.heap.size w w5 := by have y6 := H0.out.2.2.2.2.2; exact H2.out.2.2.2.2.trans (k5.below (fun q hq => by have hq' : q = O := hq; omega) H2.out.2.2.2.2.size)
   go_wp2_with fail
   refine bodyPost_ret (results_tup rfl _ _ O _ rfl h5) rfl ?_
   exact ⟨by rw [HGO.out], b5⟩
set_option maxHeartbeats 1600000 in
set_option maxRecDepth 100000 in
theorem timeR_any (c : CF) (a : Option Addr) (n k : Nat) (f : FN) (w : World) : Calls Tryz.prog 55 #[.agg (rvC c a n k), .agg (flC f)] w fun r w' => r = .returned (.int .i64 (tkN c f.x.pr f.st)) ∧ Below w.heap.size w w' := by
 obtain ⟨Wb, B, HSZX, HOX, HLX, HWX, hb⟩ := zBx w (rvC c a n k) 36
 have HBX : Hid (RvtAt Wb B c a n k) := hb
 obtain ⟨CX, hC⟩ : ∃ C, C = rvC c a n k := ⟨_, rfl⟩
 rw [← hC] at HWX ⊢
 clear hb hC
 obtain ⟨Wd, D, HSZZ, HOZ, HLZ, HWZ, hb⟩ := zBx Wb (flC f) 72
 have HBZ : Hid (FloAt Wd D f) := hb
 obtain ⟨CZ, hC⟩ : ∃ C, C = flC f := ⟨_, rfl⟩
 rw [← hC] at HWZ ⊢
 clear hb hC
 have H0 : Hid (RvtAt Wd B c a n k ∧ FloAt Wd D f ∧ Below w.heap.size w Wd) := ⟨HBX.out.below HLZ.out, HBZ.out, bthen HLX.out HLZ.out⟩
 obtain ⟨st, hst⟩ : ∃ v, f.st = v := ⟨_, rfl⟩
 obtain ⟨pr, hpr⟩ : ∃ v, f.x.pr = v := ⟨_, rfl⟩
 have d38 : Wd.cell? ⟨D, 38, none⟩ = some (.int .i64 st) := by rw [← hst]; exact H0.out.2.1.cell 38
 have d0 : Wd.cell? ⟨D, 0, none⟩ = some (.int .i64 pr) := by rw [← hpr]; exact H0.out.2.1.cell 0
 have c20 : Wd.cell? ⟨B, 20, none⟩ = some (.int .i64 c.sy) := H0.out.1.cell 20
 have c21 : Wd.cell? ⟨B, 21, none⟩ = some (.int .i64 c.tc) := H0.out.1.cell 21
 have c22 : Wd.cell? ⟨B, 22, none⟩ = some (.int .i64 c.fi) := H0.out.1.cell 22
 have c23 : Wd.cell? ⟨B, 23, none⟩ = some (.int .i64 c.ud) := H0.out.1.cell 23
 have c24 : Wd.cell? ⟨B, 24, none⟩ = some (.int .i64 c.ic) := H0.out.1.cell 24
 rw [hst, hpr]
 obtain ⟨tk, htk⟩ : ∃ v, tkN c pr st = v := ⟨_, rfl⟩
 rw [htk]
 obtain ⟨e1, h1⟩ : ∃ b, (st == 1) = b := ⟨_, rfl⟩
 obtain ⟨e2, h2⟩ : ∃ b, (st == 2) = b := ⟨_, rfl⟩
 obtain ⟨e3, h3⟩ : ∃ b, (st == 3) = b := ⟨_, rfl⟩
 obtain ⟨e7, h7⟩ : ∃ b, (st == 7) = b := ⟨_, rfl⟩
 obtain ⟨e17, h17⟩ : ∃ b, (pr == 17) = b := ⟨_, rfl⟩
 have hn7 : (st != 7) = !e7 := by rw [← h7]; rfl
 have HT : Hid (tk = if (e1 || e2) = true then c.sy else if e3 = true then c.tc else if e7 = true then (if e17 = true then c.ud else c.ic) else c.fi) := by
  show tk = _
  rw [← htk]
  unfold tkN
  rw [h1, h2, h3, h7, h17]
 clear hst hpr htk h7
 go_enter Tryz.func55, Tryz.ntmps55
 go_upto_region 1 with (first | (rw [HOX.out, HWX.out]) | (rw [HOZ.out, HWZ.out]))
 cases e1 with
 | false =>
  cases e2 with
  | false =>
   cases e3 with
   | false =>
    cases e7 with
    | false =>
     go_wp2
     go_ret
     exact ⟨by have h := HT.out; subst h; rfl, H0.out.2.2⟩
    | true =>
     cases e17 with
     | false =>
      go_wp2
      go_ret
      exact ⟨by have h := HT.out; subst h; rfl, H0.out.2.2⟩
     | true =>
      go_wp2
      go_ret
      exact ⟨by have h := HT.out; subst h; rfl, H0.out.2.2⟩
   | true =>
    go_wp2
    go_ret
    exact ⟨by have h := HT.out; subst h; rfl, H0.out.2.2⟩
  | true =>
   go_wp2
   go_ret
   exact ⟨by have h := HT.out; subst h; rfl, H0.out.2.2⟩
 | true =>
  go_wp2
  go_ret
  exact ⟨by have h := HT.out; subst h; rfl, H0.out.2.2⟩
end Go.Proofs.YtclpeepnngegaaaGreatDoor
