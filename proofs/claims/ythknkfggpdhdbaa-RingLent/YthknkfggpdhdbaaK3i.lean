/-
  Law3p Law3q Law3r Law3s, one behind the other.
-/
import Derived.Test.YthknkfggpdhdbaaK3h
import Derived.Lib.SlBytesConst
namespace Go.Proofs.Ythknkfggpdhdbaa
open Go.RowKit

theorem Try.sizeOp : (Try.prog.info? 68).map (·.size) = some 5 := by kernel_rfl
theorem wpList_load_op {ops : Array Oper} {rest : List Oper} {o : Oper} {a : Act} {w : World} {Q : Exit → Act → World → Prop} (x : Operand) (ho : o.op = .load 68 x) (O : Nat) (C : Array Value) (hC : C.size = 5) (hx : a.eval x = .pointer (some ⟨O, 0, none⟩)) (hb : w.heap[O]? = some (.cells C 68 (0, 0)))
    (hw : Region.wanted o (yielded ops a.tmps) = true) (h : wpList Try.prog ops Q rest (a.put o.dst (.agg C)) w) : wpList Try.prog ops Q (o :: rest) a w := by
  refine wpList_step fun K hK => ?_
  rw [if_pos hw]
  exact wp_load_row 68 x ho O hx _ _ _ _ hb Try.underlying68 rfl (by rw [hC]; exact Try.sizeOp) (hK _ _ h)
theorem Stepped.wrap {B O : Nat} {w W w1 w5 : World} {v v' : SV} (ok : SideOk B w v) (hb : Below w.heap.size w W) (hO : w.heap.size = O) (hW : W.heap.size = O + 3) (k : Stepped B W w1 v v') (k5 : Ch (fun q => q = O + 2) w1 w5) : Stepped B w w5 v v' := by
  have h1 := Stepped.trans hb k
  refine ⟨k.ok.ch k5 (fun q hq e => ?_), h1.ch.trans k5 (fun q hq e => ?_), h1.new, h1.now, h1.win⟩
  · have e' : q = O + 2 := e
    rcases k.new q hq with h2 | h2
    · have := ok.lt q h2; omega
    · omega
  · have e' : q = O + 2 := e
    omega
theorem Stepped.res {B O : Nat} {w W w1 : World} {v v' : SV} {C : Array Value} (ok : SideOk B w v) (hO : w.heap.size = O) (hbx : Bxs W O v C) (k : Stepped B W w1 v v') : Bxs w1 O v C := by
  have nq : ∀ q, O ≤ q → ¬ v.wr q := fun q h1 h2 => by have := ok.lt q (.inl h2); omega
  exact hbx.ch k.ch (nq _ (by omega)) (nq _ (by omega)) (nq _ (by omega))
theorem Stepped.local {B X : Nat} {w x x' : World} {v v' : SV} (h : Stepped B w x v v') (h1 : w.heap.size ≤ X) (h2 : ¬ v'.all X) (k : Ch (fun q => q = X) x x') : Stepped B w x' v v' :=
  ⟨h.ok.ch k (fun q hq e => by have e' : q = X := e; subst e'; exact h2 hq), h.ch.trans k (fun q hq e => by have e' : q = X := e; omega), h.new, h.now, h.win⟩
theorem Stepped.id {B : Nat} {w x : World} {v : SV} (ok : SideOk B w v) (hb : Below w.heap.size w x) : Stepped B w x v v := ⟨ok.below hb, Ch.ofBelow hb, fun _ h => .inl h, Nat.le_add_right _ _, Nat.le_succ _⟩
set_option maxRecDepth 100000 in
set_option maxHeartbeats 3200000 in
theorem step_arr (B : Nat) (w : World) (v : SV) (ok : SideOk B w v) (two : Bool) (i n : Int) (oa : Option Addr) (fl oc : Nat) (X : SV → Prop) (Q : ∀ x, Below w.heap.size w x → Calls Try.prog 55 #[.agg v.cells, .slice oa fl oc] x fun e w1 => ∃ v', e = .returned (.tuple #[.agg v'.cells, .bool true]) ∧ Stepped B x w1 v v' ∧ X v') :
    Calls Try.prog 34 #[.agg v.cells, .agg (opC 2 two i n oa fl oc)] w fun e w' => ∃ v', e = .returned (.tuple #[.agg v'.cells, .bool true]) ∧ Stepped B w w' v v' ∧ X v' := by
  obtain ⟨C, hC⟩ : ∃ C, C = opC 2 two i n oa fl oc := ⟨_, rfl⟩
  rw [← hC]
  obtain ⟨W, hW⟩ : ∃ W, W = ((w.alloc (.cells v.cells 29)).alloc (.cells C 68)).alloc (.cells zS 29) := ⟨_, rfl⟩
  obtain ⟨O, hO⟩ : ∃ O, O = w.heap.size := ⟨_, rfl⟩
  have hbx : Bxs W O v C := by rw [hW, hO]; exact bxs_new w v C
  have hsz : W.heap.size = O + 3 := by rw [hW, hO]; exact bxs_size w v C
  have hL : Loc B (O + 3) w W v v := by rw [← hsz, hW]; exact Loc.start ok (bxs_below w v C)
  have HW : Hid (((w.alloc (.cells v.cells 29)).alloc (.cells C 68)).alloc (.cells #[.pointer none, .int .i64 0, .int .i64 0, .int .i64 0, .slice none 0 0, .int .i64 0, .slice none 0 0] 29) = W) := hW.symm
  have HO : Hid (w.heap.size = O) := hO.symm
  have HSZ : Hid (W.heap.size = O + 3) := hsz
  have HL : Hid _ := hL
  have HB : Hid _ := hbx
  have c0 := hbx.box.c0
  have ck : W.cell? ⟨O + 1, 0, none⟩ = some (.int .i64 2) := by rw [hC] at hbx; exact hbx.ckd
  have ci : W.cell? ⟨O + 1, 2, none⟩ = some (.int .i64 i) := by rw [hC] at hbx; exact hbx.ci
  have cn : W.cell? ⟨O + 1, 3, none⟩ = some (.int .i64 n) := by rw [hC] at hbx; exact hbx.cn
  have HC : Hid (C = opC 2 two i n oa fl oc) := hC
  have HOK : Hid _ := ok
  have HBW : Hid (Below w.heap.size w W) := by rw [hW]; exact bxs_below w v C
  have hbox := hbx.box
  have hop := hbx.op
  have cb : W.cell? ⟨O + 1, 4, none⟩ = some (.slice oa fl oc) := by rw [hC] at hbx; exact hbx.cb
  have hC5 : C.size = 5 := by rw [hC]; rfl
  have Q1 : Hid _ := Q W HBW.out
  skip
  clear hW hO hsz hL hC ok hbx Q
  go_enter Try.func34, Try.ntmps34
  go_upto_region 1 with fail
  rw [HW.out, HO.out]
  go_wp2_with (first | (refine wpList_load_sd (.tmp 2) rfl O v rfl hbox rfl ?_) | (refine wpList_load_op (.tmp 3) rfl (O + 1) C hC5 rfl hop rfl ?_))
  refine Calls.mono Q1.out ?_
  rintro e w1 ⟨v1, rfl, st, hX⟩
  have hres1 := (Stepped.res HOK.out HO.out HB.out st).res
  have HS1 : Hid _ := st
  have HX : Hid _ := hX
  clear Q1 st hX hbox hop c0 ck ci cn cb
  go_wp2_with (first | (refine wpList_store_sd (.tmp 4) (.tmp 16) rfl rfl (O + 2) zS rfl v1 rfl rfl hres1 rfl ?_))
  intro w5 hR5 k5
  have HS5 : Hid _ := Stepped.wrap HOK.out HBW.out HO.out HSZ.out HS1.out k5
  have HR5 : Hid (SdAt w5 (O + 2) v1) := hR5
  clear k5 hR5 hres1
  go_wp2
  (try simp only [Exit.inBlock, Exit.then])
  refine bodyPost_ret (results_sd_tmp rfl _ _ (O + 2) v1 rfl HR5.out) rfl ?_
  exact ⟨v1, rfl, HS5.out, HX.out⟩
set_option maxRecDepth 100000 in
set_option maxHeartbeats 3200000 in
theorem step_ans3 (B : Nat) (w : World) (v : SV) (ok : SideOk B w v) (two : Bool) (i n : Int) (oa : Option Addr) (fl oc : Nat) (X : SV → Prop) (Q : ∀ x, Below w.heap.size w x → Calls Try.prog 56 #[.agg v.cells, .agg (opC 3 two i n oa fl oc)] x fun e w1 => ∃ v', e = .returned (.tuple #[.agg v'.cells, .bool true]) ∧ Stepped B x w1 v v' ∧ X v') :
    Calls Try.prog 34 #[.agg v.cells, .agg (opC 3 two i n oa fl oc)] w fun e w' => ∃ v', e = .returned (.tuple #[.agg v'.cells, .bool true]) ∧ Stepped B w w' v v' ∧ X v' := by
  obtain ⟨C, hC⟩ : ∃ C, C = opC 3 two i n oa fl oc := ⟨_, rfl⟩
  rw [← hC]
  obtain ⟨W, hW⟩ : ∃ W, W = ((w.alloc (.cells v.cells 29)).alloc (.cells C 68)).alloc (.cells zS 29) := ⟨_, rfl⟩
  obtain ⟨O, hO⟩ : ∃ O, O = w.heap.size := ⟨_, rfl⟩
  have hbx : Bxs W O v C := by rw [hW, hO]; exact bxs_new w v C
  have hsz : W.heap.size = O + 3 := by rw [hW, hO]; exact bxs_size w v C
  have hL : Loc B (O + 3) w W v v := by rw [← hsz, hW]; exact Loc.start ok (bxs_below w v C)
  have HW : Hid (((w.alloc (.cells v.cells 29)).alloc (.cells C 68)).alloc (.cells #[.pointer none, .int .i64 0, .int .i64 0, .int .i64 0, .slice none 0 0, .int .i64 0, .slice none 0 0] 29) = W) := hW.symm
  have HO : Hid (w.heap.size = O) := hO.symm
  have HSZ : Hid (W.heap.size = O + 3) := hsz
  have HL : Hid _ := hL
  have HB : Hid _ := hbx
  have c0 := hbx.box.c0
  have ck : W.cell? ⟨O + 1, 0, none⟩ = some (.int .i64 3) := by rw [hC] at hbx; exact hbx.ckd
  have ci : W.cell? ⟨O + 1, 2, none⟩ = some (.int .i64 i) := by rw [hC] at hbx; exact hbx.ci
  have cn : W.cell? ⟨O + 1, 3, none⟩ = some (.int .i64 n) := by rw [hC] at hbx; exact hbx.cn
  have HC : Hid (C = opC 3 two i n oa fl oc) := hC
  have HOK : Hid _ := ok
  have HBW : Hid (Below w.heap.size w W) := by rw [hW]; exact bxs_below w v C
  have hbox := hbx.box
  have hop := hbx.op
  have cb : W.cell? ⟨O + 1, 4, none⟩ = some (.slice oa fl oc) := by rw [hC] at hbx; exact hbx.cb
  have hC5 : C.size = 5 := by rw [hC]; rfl
  have Q1 : Hid _ := Q W HBW.out
  rw [← hC] at Q1
  clear hW hO hsz hL hC ok hbx Q
  go_enter Try.func34, Try.ntmps34
  go_upto_region 1 with fail
  rw [HW.out, HO.out]
  go_wp2_with (first | (refine wpList_load_sd (.tmp 2) rfl O v rfl hbox rfl ?_) | (refine wpList_load_op (.tmp 3) rfl (O + 1) C hC5 rfl hop rfl ?_))
  refine Calls.mono Q1.out ?_
  rintro e w1 ⟨v1, rfl, st, hX⟩
  have hres1 := (Stepped.res HOK.out HO.out HB.out st).res
  have HS1 : Hid _ := st
  have HX : Hid _ := hX
  clear Q1 st hX hbox hop c0 ck ci cn cb
  go_wp2_with (first | (refine wpList_store_sd (.tmp 4) (.tmp 25) rfl rfl (O + 2) zS rfl v1 rfl rfl hres1 rfl ?_))
  intro w5 hR5 k5
  have HS5 : Hid _ := Stepped.wrap HOK.out HBW.out HO.out HSZ.out HS1.out k5
  have HR5 : Hid (SdAt w5 (O + 2) v1) := hR5
  clear k5 hR5 hres1
  go_wp2
  (try simp only [Exit.inBlock, Exit.then])
  refine bodyPost_ret (results_sd_tmp rfl _ _ (O + 2) v1 rfl HR5.out) rfl ?_
  exact ⟨v1, rfl, HS5.out, HX.out⟩
set_option maxRecDepth 100000 in
set_option maxHeartbeats 3200000 in
theorem step_ans4 (B : Nat) (w : World) (v : SV) (ok : SideOk B w v) (two : Bool) (i n : Int) (oa : Option Addr) (fl oc : Nat) (X : SV → Prop) (Q : ∀ x, Below w.heap.size w x → Calls Try.prog 56 #[.agg v.cells, .agg (opC 4 two i n oa fl oc)] x fun e w1 => ∃ v', e = .returned (.tuple #[.agg v'.cells, .bool true]) ∧ Stepped B x w1 v v' ∧ X v') :
    Calls Try.prog 34 #[.agg v.cells, .agg (opC 4 two i n oa fl oc)] w fun e w' => ∃ v', e = .returned (.tuple #[.agg v'.cells, .bool true]) ∧ Stepped B w w' v v' ∧ X v' := by
  obtain ⟨C, hC⟩ : ∃ C, C = opC 4 two i n oa fl oc := ⟨_, rfl⟩
  rw [← hC]
  obtain ⟨W, hW⟩ : ∃ W, W = ((w.alloc (.cells v.cells 29)).alloc (.cells C 68)).alloc (.cells zS 29) := ⟨_, rfl⟩
  obtain ⟨O, hO⟩ : ∃ O, O = w.heap.size := ⟨_, rfl⟩
  have hbx : Bxs W O v C := by rw [hW, hO]; exact bxs_new w v C
  have hsz : W.heap.size = O + 3 := by rw [hW, hO]; exact bxs_size w v C
  have hL : Loc B (O + 3) w W v v := by rw [← hsz, hW]; exact Loc.start ok (bxs_below w v C)
  have HW : Hid (((w.alloc (.cells v.cells 29)).alloc (.cells C 68)).alloc (.cells #[.pointer none, .int .i64 0, .int .i64 0, .int .i64 0, .slice none 0 0, .int .i64 0, .slice none 0 0] 29) = W) := hW.symm
  have HO : Hid (w.heap.size = O) := hO.symm
  have HSZ : Hid (W.heap.size = O + 3) := hsz
  have HL : Hid _ := hL
  have HB : Hid _ := hbx
  have c0 := hbx.box.c0
  have ck : W.cell? ⟨O + 1, 0, none⟩ = some (.int .i64 4) := by rw [hC] at hbx; exact hbx.ckd
  have ci : W.cell? ⟨O + 1, 2, none⟩ = some (.int .i64 i) := by rw [hC] at hbx; exact hbx.ci
  have cn : W.cell? ⟨O + 1, 3, none⟩ = some (.int .i64 n) := by rw [hC] at hbx; exact hbx.cn
  have HC : Hid (C = opC 4 two i n oa fl oc) := hC
  have HOK : Hid _ := ok
  have HBW : Hid (Below w.heap.size w W) := by rw [hW]; exact bxs_below w v C
  have hbox := hbx.box
  have hop := hbx.op
  have cb : W.cell? ⟨O + 1, 4, none⟩ = some (.slice oa fl oc) := by rw [hC] at hbx; exact hbx.cb
  have hC5 : C.size = 5 := by rw [hC]; rfl
  have Q1 : Hid _ := Q W HBW.out
  rw [← hC] at Q1
  clear hW hO hsz hL hC ok hbx Q
  go_enter Try.func34, Try.ntmps34
  go_upto_region 1 with fail
  rw [HW.out, HO.out]
  go_wp2_with (first | (refine wpList_load_sd (.tmp 2) rfl O v rfl hbox rfl ?_) | (refine wpList_load_op (.tmp 3) rfl (O + 1) C hC5 rfl hop rfl ?_))
  refine Calls.mono Q1.out ?_
  rintro e w1 ⟨v1, rfl, st, hX⟩
  have hres1 := (Stepped.res HOK.out HO.out HB.out st).res
  have HS1 : Hid _ := st
  have HX : Hid _ := hX
  clear Q1 st hX hbox hop c0 ck ci cn cb
  go_wp2_with (first | (refine wpList_store_sd (.tmp 4) (.tmp 25) rfl rfl (O + 2) zS rfl v1 rfl rfl hres1 rfl ?_))
  intro w5 hR5 k5
  have HS5 : Hid _ := Stepped.wrap HOK.out HBW.out HO.out HSZ.out HS1.out k5
  have HR5 : Hid (SdAt w5 (O + 2) v1) := hR5
  clear k5 hR5 hres1
  go_wp2
  (try simp only [Exit.inBlock, Exit.then])
  refine bodyPost_ret (results_sd_tmp rfl _ _ (O + 2) v1 rfl HR5.out) rfl ?_
  exact ⟨v1, rfl, HS5.out, HX.out⟩
set_option maxRecDepth 100000 in
set_option maxHeartbeats 3200000 in
theorem step_ans5 (B : Nat) (w : World) (v : SV) (ok : SideOk B w v) (two : Bool) (i n : Int) (oa : Option Addr) (fl oc : Nat) (X : SV → Prop) (Q : ∀ x, Below w.heap.size w x → Calls Try.prog 56 #[.agg v.cells, .agg (opC 5 two i n oa fl oc)] x fun e w1 => ∃ v', e = .returned (.tuple #[.agg v'.cells, .bool true]) ∧ Stepped B x w1 v v' ∧ X v') :
    Calls Try.prog 34 #[.agg v.cells, .agg (opC 5 two i n oa fl oc)] w fun e w' => ∃ v', e = .returned (.tuple #[.agg v'.cells, .bool true]) ∧ Stepped B w w' v v' ∧ X v' := by
  obtain ⟨C, hC⟩ : ∃ C, C = opC 5 two i n oa fl oc := ⟨_, rfl⟩
  rw [← hC]
  obtain ⟨W, hW⟩ : ∃ W, W = ((w.alloc (.cells v.cells 29)).alloc (.cells C 68)).alloc (.cells zS 29) := ⟨_, rfl⟩
  obtain ⟨O, hO⟩ : ∃ O, O = w.heap.size := ⟨_, rfl⟩
  have hbx : Bxs W O v C := by rw [hW, hO]; exact bxs_new w v C
  have hsz : W.heap.size = O + 3 := by rw [hW, hO]; exact bxs_size w v C
  have hL : Loc B (O + 3) w W v v := by rw [← hsz, hW]; exact Loc.start ok (bxs_below w v C)
  have HW : Hid (((w.alloc (.cells v.cells 29)).alloc (.cells C 68)).alloc (.cells #[.pointer none, .int .i64 0, .int .i64 0, .int .i64 0, .slice none 0 0, .int .i64 0, .slice none 0 0] 29) = W) := hW.symm
  have HO : Hid (w.heap.size = O) := hO.symm
  have HSZ : Hid (W.heap.size = O + 3) := hsz
  have HL : Hid _ := hL
  have HB : Hid _ := hbx
  have c0 := hbx.box.c0
  have ck : W.cell? ⟨O + 1, 0, none⟩ = some (.int .i64 5) := by rw [hC] at hbx; exact hbx.ckd
  have ci : W.cell? ⟨O + 1, 2, none⟩ = some (.int .i64 i) := by rw [hC] at hbx; exact hbx.ci
  have cn : W.cell? ⟨O + 1, 3, none⟩ = some (.int .i64 n) := by rw [hC] at hbx; exact hbx.cn
  have HC : Hid (C = opC 5 two i n oa fl oc) := hC
  have HOK : Hid _ := ok
  have HBW : Hid (Below w.heap.size w W) := by rw [hW]; exact bxs_below w v C
  have hbox := hbx.box
  have hop := hbx.op
  have cb : W.cell? ⟨O + 1, 4, none⟩ = some (.slice oa fl oc) := by rw [hC] at hbx; exact hbx.cb
  have hC5 : C.size = 5 := by rw [hC]; rfl
  have Q1 : Hid _ := Q W HBW.out
  rw [← hC] at Q1
  clear hW hO hsz hL hC ok hbx Q
  go_enter Try.func34, Try.ntmps34
  go_upto_region 1 with fail
  rw [HW.out, HO.out]
  go_wp2_with (first | (refine wpList_load_sd (.tmp 2) rfl O v rfl hbox rfl ?_) | (refine wpList_load_op (.tmp 3) rfl (O + 1) C hC5 rfl hop rfl ?_))
  refine Calls.mono Q1.out ?_
  rintro e w1 ⟨v1, rfl, st, hX⟩
  have hres1 := (Stepped.res HOK.out HO.out HB.out st).res
  have HS1 : Hid _ := st
  have HX : Hid _ := hX
  clear Q1 st hX hbox hop c0 ck ci cn cb
  go_wp2_with (first | (refine wpList_store_sd (.tmp 4) (.tmp 25) rfl rfl (O + 2) zS rfl v1 rfl rfl hres1 rfl ?_))
  intro w5 hR5 k5
  have HS5 : Hid _ := Stepped.wrap HOK.out HBW.out HO.out HSZ.out HS1.out k5
  have HR5 : Hid (SdAt w5 (O + 2) v1) := hR5
  clear k5 hR5 hres1
  go_wp2
  (try simp only [Exit.inBlock, Exit.then])
  refine bodyPost_ret (results_sd_tmp rfl _ _ (O + 2) v1 rfl HR5.out) rfl ?_
  exact ⟨v1, rfl, HS5.out, HX.out⟩
set_option maxRecDepth 100000 in
set_option maxHeartbeats 3200000 in
theorem step_mov1 (B : Nat) (w : World) (v : SV) (ok : SideOk B w v) (two : Bool) (i n : Int) (oa : Option Addr) (fl oc : Nat) (X : SV → Prop) (Q : ∀ x, Below w.heap.size w x → Calls Try.prog 57 #[.agg v.cells, .agg (opC 1 two i n oa fl oc)] x fun e w1 => ∃ v', e = .returned (.tuple #[.agg v'.cells, .bool true]) ∧ Stepped B x w1 v v' ∧ X v') :
    Calls Try.prog 34 #[.agg v.cells, .agg (opC 1 two i n oa fl oc)] w fun e w' => ∃ v', e = .returned (.tuple #[.agg v'.cells, .bool true]) ∧ Stepped B w w' v v' ∧ X v' := by
  obtain ⟨C, hC⟩ : ∃ C, C = opC 1 two i n oa fl oc := ⟨_, rfl⟩
  rw [← hC]
  obtain ⟨W, hW⟩ : ∃ W, W = ((w.alloc (.cells v.cells 29)).alloc (.cells C 68)).alloc (.cells zS 29) := ⟨_, rfl⟩
  obtain ⟨O, hO⟩ : ∃ O, O = w.heap.size := ⟨_, rfl⟩
  have hbx : Bxs W O v C := by rw [hW, hO]; exact bxs_new w v C
  have hsz : W.heap.size = O + 3 := by rw [hW, hO]; exact bxs_size w v C
  have hL : Loc B (O + 3) w W v v := by rw [← hsz, hW]; exact Loc.start ok (bxs_below w v C)
  have HW : Hid (((w.alloc (.cells v.cells 29)).alloc (.cells C 68)).alloc (.cells #[.pointer none, .int .i64 0, .int .i64 0, .int .i64 0, .slice none 0 0, .int .i64 0, .slice none 0 0] 29) = W) := hW.symm
  have HO : Hid (w.heap.size = O) := hO.symm
  have HSZ : Hid (W.heap.size = O + 3) := hsz
  have HL : Hid _ := hL
  have HB : Hid _ := hbx
  have c0 := hbx.box.c0
  have ck : W.cell? ⟨O + 1, 0, none⟩ = some (.int .i64 1) := by rw [hC] at hbx; exact hbx.ckd
  have ci : W.cell? ⟨O + 1, 2, none⟩ = some (.int .i64 i) := by rw [hC] at hbx; exact hbx.ci
  have cn : W.cell? ⟨O + 1, 3, none⟩ = some (.int .i64 n) := by rw [hC] at hbx; exact hbx.cn
  have HC : Hid (C = opC 1 two i n oa fl oc) := hC
  have HOK : Hid _ := ok
  have HBW : Hid (Below w.heap.size w W) := by rw [hW]; exact bxs_below w v C
  have hbox := hbx.box
  have hop := hbx.op
  have cb : W.cell? ⟨O + 1, 4, none⟩ = some (.slice oa fl oc) := by rw [hC] at hbx; exact hbx.cb
  have hC5 : C.size = 5 := by rw [hC]; rfl
  have Q1 : Hid _ := Q W HBW.out
  rw [← hC] at Q1
  clear hW hO hsz hL hC ok hbx Q
  go_enter Try.func34, Try.ntmps34
  go_upto_region 1 with fail
  rw [HW.out, HO.out]
  go_wp2_with (first | (refine wpList_load_sd (.tmp 2) rfl O v rfl hbox rfl ?_) | (refine wpList_load_op (.tmp 3) rfl (O + 1) C hC5 rfl hop rfl ?_))
  refine Calls.mono Q1.out ?_
  rintro e w1 ⟨v1, rfl, st, hX⟩
  have hres1 := (Stepped.res HOK.out HO.out HB.out st).res
  have HS1 : Hid _ := st
  have HX : Hid _ := hX
  clear Q1 st hX hbox hop c0 ck ci cn cb
  go_wp2_with (first | (refine wpList_store_sd (.tmp 4) (.tmp 35) rfl rfl (O + 2) zS rfl v1 rfl rfl hres1 rfl ?_))
  intro w5 hR5 k5
  have HS5 : Hid _ := Stepped.wrap HOK.out HBW.out HO.out HSZ.out HS1.out k5
  have HR5 : Hid (SdAt w5 (O + 2) v1) := hR5
  clear k5 hR5 hres1
  go_wp2
  (try simp only [Exit.inBlock, Exit.then])
  refine bodyPost_ret (results_sd_tmp rfl _ _ (O + 2) v1 rfl HR5.out) rfl ?_
  exact ⟨v1, rfl, HS5.out, HX.out⟩
set_option maxRecDepth 100000 in
set_option maxHeartbeats 3200000 in
theorem step_mov6 (B : Nat) (w : World) (v : SV) (ok : SideOk B w v) (two : Bool) (i n : Int) (oa : Option Addr) (fl oc : Nat) (X : SV → Prop) (Q : ∀ x, Below w.heap.size w x → Calls Try.prog 57 #[.agg v.cells, .agg (opC 6 two i n oa fl oc)] x fun e w1 => ∃ v', e = .returned (.tuple #[.agg v'.cells, .bool true]) ∧ Stepped B x w1 v v' ∧ X v') :
    Calls Try.prog 34 #[.agg v.cells, .agg (opC 6 two i n oa fl oc)] w fun e w' => ∃ v', e = .returned (.tuple #[.agg v'.cells, .bool true]) ∧ Stepped B w w' v v' ∧ X v' := by
  obtain ⟨C, hC⟩ : ∃ C, C = opC 6 two i n oa fl oc := ⟨_, rfl⟩
  rw [← hC]
  obtain ⟨W, hW⟩ : ∃ W, W = ((w.alloc (.cells v.cells 29)).alloc (.cells C 68)).alloc (.cells zS 29) := ⟨_, rfl⟩
  obtain ⟨O, hO⟩ : ∃ O, O = w.heap.size := ⟨_, rfl⟩
  have hbx : Bxs W O v C := by rw [hW, hO]; exact bxs_new w v C
  have hsz : W.heap.size = O + 3 := by rw [hW, hO]; exact bxs_size w v C
  have hL : Loc B (O + 3) w W v v := by rw [← hsz, hW]; exact Loc.start ok (bxs_below w v C)
  have HW : Hid (((w.alloc (.cells v.cells 29)).alloc (.cells C 68)).alloc (.cells #[.pointer none, .int .i64 0, .int .i64 0, .int .i64 0, .slice none 0 0, .int .i64 0, .slice none 0 0] 29) = W) := hW.symm
  have HO : Hid (w.heap.size = O) := hO.symm
  have HSZ : Hid (W.heap.size = O + 3) := hsz
  have HL : Hid _ := hL
  have HB : Hid _ := hbx
  have c0 := hbx.box.c0
  have ck : W.cell? ⟨O + 1, 0, none⟩ = some (.int .i64 6) := by rw [hC] at hbx; exact hbx.ckd
  have ci : W.cell? ⟨O + 1, 2, none⟩ = some (.int .i64 i) := by rw [hC] at hbx; exact hbx.ci
  have cn : W.cell? ⟨O + 1, 3, none⟩ = some (.int .i64 n) := by rw [hC] at hbx; exact hbx.cn
  have HC : Hid (C = opC 6 two i n oa fl oc) := hC
  have HOK : Hid _ := ok
  have HBW : Hid (Below w.heap.size w W) := by rw [hW]; exact bxs_below w v C
  have hbox := hbx.box
  have hop := hbx.op
  have cb : W.cell? ⟨O + 1, 4, none⟩ = some (.slice oa fl oc) := by rw [hC] at hbx; exact hbx.cb
  have hC5 : C.size = 5 := by rw [hC]; rfl
  have Q1 : Hid _ := Q W HBW.out
  rw [← hC] at Q1
  clear hW hO hsz hL hC ok hbx Q
  go_enter Try.func34, Try.ntmps34
  go_upto_region 1 with fail
  rw [HW.out, HO.out]
  go_wp2_with (first | (refine wpList_load_sd (.tmp 2) rfl O v rfl hbox rfl ?_) | (refine wpList_load_op (.tmp 3) rfl (O + 1) C hC5 rfl hop rfl ?_))
  refine Calls.mono Q1.out ?_
  rintro e w1 ⟨v1, rfl, st, hX⟩
  have hres1 := (Stepped.res HOK.out HO.out HB.out st).res
  have HS1 : Hid _ := st
  have HX : Hid _ := hX
  clear Q1 st hX hbox hop c0 ck ci cn cb
  go_wp2_with (first | (refine wpList_store_sd (.tmp 4) (.tmp 35) rfl rfl (O + 2) zS rfl v1 rfl rfl hres1 rfl ?_))
  intro w5 hR5 k5
  have HS5 : Hid _ := Stepped.wrap HOK.out HBW.out HO.out HSZ.out HS1.out k5
  have HR5 : Hid (SdAt w5 (O + 2) v1) := hR5
  clear k5 hR5 hres1
  go_wp2
  (try simp only [Exit.inBlock, Exit.then])
  refine bodyPost_ret (results_sd_tmp rfl _ _ (O + 2) v1 rfl HR5.out) rfl ?_
  exact ⟨v1, rfl, HS5.out, HX.out⟩
set_option maxRecDepth 100000 in
set_option maxHeartbeats 3200000 in
theorem step_mov7 (B : Nat) (w : World) (v : SV) (ok : SideOk B w v) (two : Bool) (i n : Int) (oa : Option Addr) (fl oc : Nat) (X : SV → Prop) (Q : ∀ x, Below w.heap.size w x → Calls Try.prog 57 #[.agg v.cells, .agg (opC 7 two i n oa fl oc)] x fun e w1 => ∃ v', e = .returned (.tuple #[.agg v'.cells, .bool true]) ∧ Stepped B x w1 v v' ∧ X v') :
    Calls Try.prog 34 #[.agg v.cells, .agg (opC 7 two i n oa fl oc)] w fun e w' => ∃ v', e = .returned (.tuple #[.agg v'.cells, .bool true]) ∧ Stepped B w w' v v' ∧ X v' := by
  obtain ⟨C, hC⟩ : ∃ C, C = opC 7 two i n oa fl oc := ⟨_, rfl⟩
  rw [← hC]
  obtain ⟨W, hW⟩ : ∃ W, W = ((w.alloc (.cells v.cells 29)).alloc (.cells C 68)).alloc (.cells zS 29) := ⟨_, rfl⟩
  obtain ⟨O, hO⟩ : ∃ O, O = w.heap.size := ⟨_, rfl⟩
  have hbx : Bxs W O v C := by rw [hW, hO]; exact bxs_new w v C
  have hsz : W.heap.size = O + 3 := by rw [hW, hO]; exact bxs_size w v C
  have hL : Loc B (O + 3) w W v v := by rw [← hsz, hW]; exact Loc.start ok (bxs_below w v C)
  have HW : Hid (((w.alloc (.cells v.cells 29)).alloc (.cells C 68)).alloc (.cells #[.pointer none, .int .i64 0, .int .i64 0, .int .i64 0, .slice none 0 0, .int .i64 0, .slice none 0 0] 29) = W) := hW.symm
  have HO : Hid (w.heap.size = O) := hO.symm
  have HSZ : Hid (W.heap.size = O + 3) := hsz
  have HL : Hid _ := hL
  have HB : Hid _ := hbx
  have c0 := hbx.box.c0
  have ck : W.cell? ⟨O + 1, 0, none⟩ = some (.int .i64 7) := by rw [hC] at hbx; exact hbx.ckd
  have ci : W.cell? ⟨O + 1, 2, none⟩ = some (.int .i64 i) := by rw [hC] at hbx; exact hbx.ci
  have cn : W.cell? ⟨O + 1, 3, none⟩ = some (.int .i64 n) := by rw [hC] at hbx; exact hbx.cn
  have HC : Hid (C = opC 7 two i n oa fl oc) := hC
  have HOK : Hid _ := ok
  have HBW : Hid (Below w.heap.size w W) := by rw [hW]; exact bxs_below w v C
  have hbox := hbx.box
  have hop := hbx.op
  have cb : W.cell? ⟨O + 1, 4, none⟩ = some (.slice oa fl oc) := by rw [hC] at hbx; exact hbx.cb
  have hC5 : C.size = 5 := by rw [hC]; rfl
  have Q1 : Hid _ := Q W HBW.out
  rw [← hC] at Q1
  clear hW hO hsz hL hC ok hbx Q
  go_enter Try.func34, Try.ntmps34
  go_upto_region 1 with fail
  rw [HW.out, HO.out]
  go_wp2_with (first | (refine wpList_load_sd (.tmp 2) rfl O v rfl hbox rfl ?_) | (refine wpList_load_op (.tmp 3) rfl (O + 1) C hC5 rfl hop rfl ?_))
  refine Calls.mono Q1.out ?_
  rintro e w1 ⟨v1, rfl, st, hX⟩
  have hres1 := (Stepped.res HOK.out HO.out HB.out st).res
  have HS1 : Hid _ := st
  have HX : Hid _ := hX
  clear Q1 st hX hbox hop c0 ck ci cn cb
  go_wp2_with (first | (refine wpList_store_sd (.tmp 4) (.tmp 35) rfl rfl (O + 2) zS rfl v1 rfl rfl hres1 rfl ?_))
  intro w5 hR5 k5
  have HS5 : Hid _ := Stepped.wrap HOK.out HBW.out HO.out HSZ.out HS1.out k5
  have HR5 : Hid (SdAt w5 (O + 2) v1) := hR5
  clear k5 hR5 hres1
  go_wp2
  (try simp only [Exit.inBlock, Exit.then])
  refine bodyPost_ret (results_sd_tmp rfl _ _ (O + 2) v1 rfl HR5.out) rfl ?_
  exact ⟨v1, rfl, HS5.out, HX.out⟩
set_option maxRecDepth 100000 in
set_option maxHeartbeats 3200000 in
theorem step_mov8 (B : Nat) (w : World) (v : SV) (ok : SideOk B w v) (two : Bool) (i n : Int) (oa : Option Addr) (fl oc : Nat) (X : SV → Prop) (Q : ∀ x, Below w.heap.size w x → Calls Try.prog 57 #[.agg v.cells, .agg (opC 8 two i n oa fl oc)] x fun e w1 => ∃ v', e = .returned (.tuple #[.agg v'.cells, .bool true]) ∧ Stepped B x w1 v v' ∧ X v') :
    Calls Try.prog 34 #[.agg v.cells, .agg (opC 8 two i n oa fl oc)] w fun e w' => ∃ v', e = .returned (.tuple #[.agg v'.cells, .bool true]) ∧ Stepped B w w' v v' ∧ X v' := by
  obtain ⟨C, hC⟩ : ∃ C, C = opC 8 two i n oa fl oc := ⟨_, rfl⟩
  rw [← hC]
  obtain ⟨W, hW⟩ : ∃ W, W = ((w.alloc (.cells v.cells 29)).alloc (.cells C 68)).alloc (.cells zS 29) := ⟨_, rfl⟩
  obtain ⟨O, hO⟩ : ∃ O, O = w.heap.size := ⟨_, rfl⟩
  have hbx : Bxs W O v C := by rw [hW, hO]; exact bxs_new w v C
  have hsz : W.heap.size = O + 3 := by rw [hW, hO]; exact bxs_size w v C
  have hL : Loc B (O + 3) w W v v := by rw [← hsz, hW]; exact Loc.start ok (bxs_below w v C)
  have HW : Hid (((w.alloc (.cells v.cells 29)).alloc (.cells C 68)).alloc (.cells #[.pointer none, .int .i64 0, .int .i64 0, .int .i64 0, .slice none 0 0, .int .i64 0, .slice none 0 0] 29) = W) := hW.symm
  have HO : Hid (w.heap.size = O) := hO.symm
  have HSZ : Hid (W.heap.size = O + 3) := hsz
  have HL : Hid _ := hL
  have HB : Hid _ := hbx
  have c0 := hbx.box.c0
  have ck : W.cell? ⟨O + 1, 0, none⟩ = some (.int .i64 8) := by rw [hC] at hbx; exact hbx.ckd
  have ci : W.cell? ⟨O + 1, 2, none⟩ = some (.int .i64 i) := by rw [hC] at hbx; exact hbx.ci
  have cn : W.cell? ⟨O + 1, 3, none⟩ = some (.int .i64 n) := by rw [hC] at hbx; exact hbx.cn
  have HC : Hid (C = opC 8 two i n oa fl oc) := hC
  have HOK : Hid _ := ok
  have HBW : Hid (Below w.heap.size w W) := by rw [hW]; exact bxs_below w v C
  have hbox := hbx.box
  have hop := hbx.op
  have cb : W.cell? ⟨O + 1, 4, none⟩ = some (.slice oa fl oc) := by rw [hC] at hbx; exact hbx.cb
  have hC5 : C.size = 5 := by rw [hC]; rfl
  have Q1 : Hid _ := Q W HBW.out
  rw [← hC] at Q1
  clear hW hO hsz hL hC ok hbx Q
  go_enter Try.func34, Try.ntmps34
  go_upto_region 1 with fail
  rw [HW.out, HO.out]
  go_wp2_with (first | (refine wpList_load_sd (.tmp 2) rfl O v rfl hbox rfl ?_) | (refine wpList_load_op (.tmp 3) rfl (O + 1) C hC5 rfl hop rfl ?_))
  refine Calls.mono Q1.out ?_
  rintro e w1 ⟨v1, rfl, st, hX⟩
  have hres1 := (Stepped.res HOK.out HO.out HB.out st).res
  have HS1 : Hid _ := st
  have HX : Hid _ := hX
  clear Q1 st hX hbox hop c0 ck ci cn cb
  go_wp2_with (first | (refine wpList_store_sd (.tmp 4) (.tmp 35) rfl rfl (O + 2) zS rfl v1 rfl rfl hres1 rfl ?_))
  intro w5 hR5 k5
  have HS5 : Hid _ := Stepped.wrap HOK.out HBW.out HO.out HSZ.out HS1.out k5
  have HR5 : Hid (SdAt w5 (O + 2) v1) := hR5
  clear k5 hR5 hres1
  go_wp2
  (try simp only [Exit.inBlock, Exit.then])
  refine bodyPost_ret (results_sd_tmp rfl _ _ (O + 2) v1 rfl HR5.out) rfl ?_
  exact ⟨v1, rfl, HS5.out, HX.out⟩
set_option maxRecDepth 100000 in
set_option maxHeartbeats 3200000 in
theorem step_told (B : Nat) (w : World) (v : SV) (ok : SideOk B w v) (two : Bool) (i n : Int) (oa : Option Addr) (fl oc : Nat) (X : SV → Prop) (hX : X v) :
    Calls Try.prog 34 #[.agg v.cells, .agg (opC 9 two i n oa fl oc)] w fun e w' => ∃ v', e = .returned (.tuple #[.agg v'.cells, .bool true]) ∧ Stepped B w w' v v' ∧ X v' := by
  obtain ⟨C, hC⟩ : ∃ C, C = opC 9 two i n oa fl oc := ⟨_, rfl⟩
  rw [← hC]
  obtain ⟨W, hW⟩ : ∃ W, W = ((w.alloc (.cells v.cells 29)).alloc (.cells C 68)).alloc (.cells zS 29) := ⟨_, rfl⟩
  obtain ⟨O, hO⟩ : ∃ O, O = w.heap.size := ⟨_, rfl⟩
  have hbx : Bxs W O v C := by rw [hW, hO]; exact bxs_new w v C
  have hsz : W.heap.size = O + 3 := by rw [hW, hO]; exact bxs_size w v C
  have hL : Loc B (O + 3) w W v v := by rw [← hsz, hW]; exact Loc.start ok (bxs_below w v C)
  have HW : Hid (((w.alloc (.cells v.cells 29)).alloc (.cells C 68)).alloc (.cells #[.pointer none, .int .i64 0, .int .i64 0, .int .i64 0, .slice none 0 0, .int .i64 0, .slice none 0 0] 29) = W) := hW.symm
  have HO : Hid (w.heap.size = O) := hO.symm
  have HSZ : Hid (W.heap.size = O + 3) := hsz
  have HL : Hid _ := hL
  have HB : Hid _ := hbx
  have c0 := hbx.box.c0
  have ck : W.cell? ⟨O + 1, 0, none⟩ = some (.int .i64 9) := by rw [hC] at hbx; exact hbx.ckd
  have ci : W.cell? ⟨O + 1, 2, none⟩ = some (.int .i64 i) := by rw [hC] at hbx; exact hbx.ci
  have cn : W.cell? ⟨O + 1, 3, none⟩ = some (.int .i64 n) := by rw [hC] at hbx; exact hbx.cn
  have HC : Hid (C = opC 9 two i n oa fl oc) := hC
  have HOK : Hid _ := ok
  have HBW : Hid (Below w.heap.size w W) := by rw [hW]; exact bxs_below w v C
  have hbox := hbx.box
  have hop := hbx.op
  have cb : W.cell? ⟨O + 1, 4, none⟩ = some (.slice oa fl oc) := by rw [hC] at hbx; exact hbx.cb
  have hC5 : C.size = 5 := by rw [hC]; rfl
  have Q1 : Hid _ := told_any B W v hL.ok
  clear hW hO hsz hL hC ok hbx
  go_enter Try.func34, Try.ntmps34
  go_upto_region 1 with fail
  rw [HW.out, HO.out]
  go_wp2_with (first | (refine wpList_load_sd (.tmp 2) rfl O v rfl hbox rfl ?_))
  refine Calls.mono Q1.out ?_
  rintro e w1 ⟨rfl, hq1⟩
  have hbx1 := HB.out.below hq1
  have hbox1 := hbx1.box
  have hres1 := hbx1.res
  have HS1 : Hid (Stepped B W w1 v v) := Stepped.id (HOK.out.below HBW.out) hq1
  clear Q1 hq1 hbox hop c0 ck ci cn cb hbx1
  go_wp2_with (first | (refine wpList_load_sd (.tmp 2) rfl O v rfl hbox1 rfl ?_) | (refine wpList_store_sd (.tmp 4) (.tmp 41) rfl rfl (O + 2) zS rfl v rfl rfl hres1 rfl ?_))
  intro w5 hR5 k5
  have HS5 : Hid _ := Stepped.wrap HOK.out HBW.out HO.out HSZ.out HS1.out k5
  have HR5 : Hid (SdAt w5 (O + 2) v) := hR5
  clear k5 hR5 hres1 hbox1
  go_wp2
  (try simp only [Exit.inBlock, Exit.then])
  refine bodyPost_ret (results_sd_tmp rfl _ _ (O + 2) v rfl HR5.out) rfl ?_
  exact ⟨v, rfl, HS5.out, hX⟩
set_option maxRecDepth 100000 in
set_option maxHeartbeats 3200000 in
theorem step_look (B : Nat) (w : World) (v : SV) (ok : SideOk B w v) (two : Bool) (i n : Int) (oa : Option Addr) (fl oc : Nat) (hW1 : 0 < v.W.length) (hW2 : v.W.length ≤ 1000000000) (X : SV → Prop) (hX : X v) :
    Calls Try.prog 34 #[.agg v.cells, .agg (opC 11 two i n oa fl oc)] w fun e w' => ∃ v', e = .returned (.tuple #[.agg v'.cells, .bool true]) ∧ Stepped B w w' v v' ∧ X v' := by
  obtain ⟨C, hC⟩ : ∃ C, C = opC 11 two i n oa fl oc := ⟨_, rfl⟩
  rw [← hC]
  obtain ⟨W, hW⟩ : ∃ W, W = ((w.alloc (.cells v.cells 29)).alloc (.cells C 68)).alloc (.cells zS 29) := ⟨_, rfl⟩
  obtain ⟨O, hO⟩ : ∃ O, O = w.heap.size := ⟨_, rfl⟩
  have hbx : Bxs W O v C := by rw [hW, hO]; exact bxs_new w v C
  have hsz : W.heap.size = O + 3 := by rw [hW, hO]; exact bxs_size w v C
  have hL : Loc B (O + 3) w W v v := by rw [← hsz, hW]; exact Loc.start ok (bxs_below w v C)
  have HW : Hid (((w.alloc (.cells v.cells 29)).alloc (.cells C 68)).alloc (.cells #[.pointer none, .int .i64 0, .int .i64 0, .int .i64 0, .slice none 0 0, .int .i64 0, .slice none 0 0] 29) = W) := hW.symm
  have HO : Hid (w.heap.size = O) := hO.symm
  have HSZ : Hid (W.heap.size = O + 3) := hsz
  have HL : Hid _ := hL
  have HB : Hid _ := hbx
  have c0 := hbx.box.c0
  have ck : W.cell? ⟨O + 1, 0, none⟩ = some (.int .i64 11) := by rw [hC] at hbx; exact hbx.ckd
  have ci : W.cell? ⟨O + 1, 2, none⟩ = some (.int .i64 i) := by rw [hC] at hbx; exact hbx.ci
  have cn : W.cell? ⟨O + 1, 3, none⟩ = some (.int .i64 n) := by rw [hC] at hbx; exact hbx.cn
  have HC : Hid (C = opC 11 two i n oa fl oc) := hC
  have HOK : Hid _ := ok
  have HBW : Hid (Below w.heap.size w W) := by rw [hW]; exact bxs_below w v C
  have hbox := hbx.box
  have hop := hbx.op
  have cb : W.cell? ⟨O + 1, 4, none⟩ = some (.slice oa fl oc) := by rw [hC] at hbx; exact hbx.cb
  have hC5 : C.size = 5 := by rw [hC]; rfl
  have Q1 : Hid _ := looked_any B W v hL.ok i hW1 hW2
  obtain ⟨N, hN⟩ : ∃ N, N = v.W.length := ⟨_, rfl⟩
  have c6 : W.cell? ⟨O, 6, none⟩ = some (.slice v.wa N v.wc) := by rw [hN]; exact hbox.c6
  have hN0 : ((N : Int) == 0) = false := by simp; omega
  clear hN hW1 hW2
  clear hW hO hsz hL hC ok hbx
  go_enter Try.func34, Try.ntmps34
  go_upto_region 1 with fail
  rw [HW.out, HO.out]
  go_wp2_with (first | (refine wpList_load_sd (.tmp 2) rfl O v rfl hbox rfl ?_))
  refine Calls.mono Q1.out ?_
  rintro e w1 ⟨rfl, hq1⟩
  have hbx1 := HB.out.below hq1
  have hbox1 := hbx1.box
  have hres1 := hbx1.res
  have HS1 : Hid (Stepped B W w1 v v) := Stepped.id (HOK.out.below HBW.out) hq1
  clear Q1 hq1 hbox hop c0 ck ci cn cb hbx1 c6
  go_wp2_with (first | (refine wpList_load_sd (.tmp 2) rfl O v rfl hbox1 rfl ?_) | (refine wpList_store_sd (.tmp 4) (.tmp 64) rfl rfl (O + 2) zS rfl v rfl rfl hres1 rfl ?_))
  intro w5 hR5 k5
  have HS5 : Hid _ := Stepped.wrap HOK.out HBW.out HO.out HSZ.out HS1.out k5
  have HR5 : Hid (SdAt w5 (O + 2) v) := hR5
  clear k5 hR5 hres1 hbox1
  go_wp2
  (try simp only [Exit.inBlock, Exit.then])
  refine bodyPost_ret (results_sd_tmp rfl _ _ (O + 2) v rfl HR5.out) rfl ?_
  exact ⟨v, rfl, HS5.out, hX⟩
set_option maxRecDepth 100000 in
set_option maxHeartbeats 3200000 in
theorem step_look0 (B : Nat) (w : World) (v : SV) (ok : SideOk B w v) (two : Bool) (i n : Int) (oa : Option Addr) (fl oc : Nat) (hW1 : v.W.length = 0) (X : SV → Prop) (hX : X v) :
    Calls Try.prog 34 #[.agg v.cells, .agg (opC 11 two i n oa fl oc)] w fun e w' => ∃ v', e = .returned (.tuple #[.agg v'.cells, .bool true]) ∧ Stepped B w w' v v' ∧ X v' := by
  obtain ⟨C, hC⟩ : ∃ C, C = opC 11 two i n oa fl oc := ⟨_, rfl⟩
  rw [← hC]
  obtain ⟨W, hW⟩ : ∃ W, W = ((w.alloc (.cells v.cells 29)).alloc (.cells C 68)).alloc (.cells zS 29) := ⟨_, rfl⟩
  obtain ⟨O, hO⟩ : ∃ O, O = w.heap.size := ⟨_, rfl⟩
  have hbx : Bxs W O v C := by rw [hW, hO]; exact bxs_new w v C
  have hsz : W.heap.size = O + 3 := by rw [hW, hO]; exact bxs_size w v C
  have hL : Loc B (O + 3) w W v v := by rw [← hsz, hW]; exact Loc.start ok (bxs_below w v C)
  have HW : Hid (((w.alloc (.cells v.cells 29)).alloc (.cells C 68)).alloc (.cells #[.pointer none, .int .i64 0, .int .i64 0, .int .i64 0, .slice none 0 0, .int .i64 0, .slice none 0 0] 29) = W) := hW.symm
  have HO : Hid (w.heap.size = O) := hO.symm
  have HSZ : Hid (W.heap.size = O + 3) := hsz
  have HL : Hid _ := hL
  have HB : Hid _ := hbx
  have c0 := hbx.box.c0
  have ck : W.cell? ⟨O + 1, 0, none⟩ = some (.int .i64 11) := by rw [hC] at hbx; exact hbx.ckd
  have ci : W.cell? ⟨O + 1, 2, none⟩ = some (.int .i64 i) := by rw [hC] at hbx; exact hbx.ci
  have cn : W.cell? ⟨O + 1, 3, none⟩ = some (.int .i64 n) := by rw [hC] at hbx; exact hbx.cn
  have HC : Hid (C = opC 11 two i n oa fl oc) := hC
  have HOK : Hid _ := ok
  have HBW : Hid (Below w.heap.size w W) := by rw [hW]; exact bxs_below w v C
  have hbox := hbx.box
  have hop := hbx.op
  have cb : W.cell? ⟨O + 1, 4, none⟩ = some (.slice oa fl oc) := by rw [hC] at hbx; exact hbx.cb
  have hC5 : C.size = 5 := by rw [hC]; rfl
  have hres1 := hbx.res
  have HS1 : Hid (Stepped B W W v v) := Stepped.id (HOK.out.below HBW.out) (Below.refl _ _)
  have c6 : W.cell? ⟨O, 6, none⟩ = some (.slice v.wa 0 v.wc) := by have h := hbox.c6; rw [hW1] at h; exact h
  clear hW1
  clear hW hO hsz hL hC ok hbx
  go_enter Try.func34, Try.ntmps34
  go_upto_region 1 with fail
  rw [HW.out, HO.out]
  go_wp2_with (first | (refine wpList_load_sd (.tmp 2) rfl O v rfl hbox rfl ?_) | (refine wpList_store_sd (.tmp 4) (.tmp 64) rfl rfl (O + 2) zS rfl v rfl rfl hres1 rfl ?_))
  intro w5 hR5 k5
  have HS5 : Hid _ := Stepped.wrap HOK.out HBW.out HO.out HSZ.out HS1.out k5
  have HR5 : Hid (SdAt w5 (O + 2) v) := hR5
  clear k5 hR5 hres1 hbox
  go_wp2
  (try simp only [Exit.inBlock, Exit.then])
  refine bodyPost_ret (results_sd_tmp rfl _ _ (O + 2) v rfl HR5.out) rfl ?_
  exact ⟨v, rfl, HS5.out, hX⟩
set_option maxRecDepth 100000 in
set_option maxHeartbeats 3200000 in
theorem step_write0 (B : Nat) (w : World) (v : SV) (ok : SideOk B w v) (two : Bool) (i n : Int) (oa : Option Addr) (fl oc : Nat) (hW1 : v.W.length = 0) (X : SV → Prop) (hX : X v) :
    Calls Try.prog 34 #[.agg v.cells, .agg (opC 10 two i n oa fl oc)] w fun e w' => ∃ v', e = .returned (.tuple #[.agg v'.cells, .bool true]) ∧ Stepped B w w' v v' ∧ X v' := by
  obtain ⟨C, hC⟩ : ∃ C, C = opC 10 two i n oa fl oc := ⟨_, rfl⟩
  rw [← hC]
  obtain ⟨W, hW⟩ : ∃ W, W = ((w.alloc (.cells v.cells 29)).alloc (.cells C 68)).alloc (.cells zS 29) := ⟨_, rfl⟩
  obtain ⟨O, hO⟩ : ∃ O, O = w.heap.size := ⟨_, rfl⟩
  have hbx : Bxs W O v C := by rw [hW, hO]; exact bxs_new w v C
  have hsz : W.heap.size = O + 3 := by rw [hW, hO]; exact bxs_size w v C
  have hL : Loc B (O + 3) w W v v := by rw [← hsz, hW]; exact Loc.start ok (bxs_below w v C)
  have HW : Hid (((w.alloc (.cells v.cells 29)).alloc (.cells C 68)).alloc (.cells #[.pointer none, .int .i64 0, .int .i64 0, .int .i64 0, .slice none 0 0, .int .i64 0, .slice none 0 0] 29) = W) := hW.symm
  have HO : Hid (w.heap.size = O) := hO.symm
  have HSZ : Hid (W.heap.size = O + 3) := hsz
  have HL : Hid _ := hL
  have HB : Hid _ := hbx
  have c0 := hbx.box.c0
  have ck : W.cell? ⟨O + 1, 0, none⟩ = some (.int .i64 10) := by rw [hC] at hbx; exact hbx.ckd
  have ci : W.cell? ⟨O + 1, 2, none⟩ = some (.int .i64 i) := by rw [hC] at hbx; exact hbx.ci
  have cn : W.cell? ⟨O + 1, 3, none⟩ = some (.int .i64 n) := by rw [hC] at hbx; exact hbx.cn
  have HC : Hid (C = opC 10 two i n oa fl oc) := hC
  have HOK : Hid _ := ok
  have HBW : Hid (Below w.heap.size w W) := by rw [hW]; exact bxs_below w v C
  have hbox := hbx.box
  have hop := hbx.op
  have cb : W.cell? ⟨O + 1, 4, none⟩ = some (.slice oa fl oc) := by rw [hC] at hbx; exact hbx.cb
  have hC5 : C.size = 5 := by rw [hC]; rfl
  have hres1 := hbx.res
  have HS1 : Hid (Stepped B W W v v) := Stepped.id (HOK.out.below HBW.out) (Below.refl _ _)
  have c6 : W.cell? ⟨O, 6, none⟩ = some (.slice v.wa 0 v.wc) := by have h := hbox.c6; rw [hW1] at h; exact h
  clear hW1
  clear hW hO hsz hL hC ok hbx
  go_enter Try.func34, Try.ntmps34
  go_upto_region 1 with fail
  rw [HW.out, HO.out]
  go_wp2_with (first | (refine wpList_load_sd (.tmp 2) rfl O v rfl hbox rfl ?_) | (refine wpList_store_sd (.tmp 4) (.tmp 66) rfl rfl (O + 2) zS rfl v rfl rfl hres1 rfl ?_))
  intro w5 hR5 k5
  have HS5 : Hid _ := Stepped.wrap HOK.out HBW.out HO.out HSZ.out HS1.out k5
  have HR5 : Hid (SdAt w5 (O + 2) v) := hR5
  clear k5 hR5 hres1 hbox
  go_wp2
  (try simp only [Exit.inBlock, Exit.then])
  refine bodyPost_ret (results_sd_tmp rfl _ _ (O + 2) v rfl HR5.out) rfl ?_
  exact ⟨v, rfl, HS5.out, hX⟩
set_option maxRecDepth 100000 in
set_option maxHeartbeats 3200000 in
theorem step_else (B : Nat) (w : World) (v : SV) (ok : SideOk B w v) (two : Bool) (i n : Int) (oa : Option Addr) (fl oc : Nat) (kd : Int) (hkd : kd < 1 ∨ 11 < kd) (X : SV → Prop) (hX : X v) :
    Calls Try.prog 34 #[.agg v.cells, .agg (opC kd two i n oa fl oc)] w fun e w' => ∃ v', e = .returned (.tuple #[.agg v'.cells, .bool true]) ∧ Stepped B w w' v v' ∧ X v' := by
  obtain ⟨C, hC⟩ : ∃ C, C = opC kd two i n oa fl oc := ⟨_, rfl⟩
  rw [← hC]
  obtain ⟨W, hW⟩ : ∃ W, W = ((w.alloc (.cells v.cells 29)).alloc (.cells C 68)).alloc (.cells zS 29) := ⟨_, rfl⟩
  obtain ⟨O, hO⟩ : ∃ O, O = w.heap.size := ⟨_, rfl⟩
  have hbx : Bxs W O v C := by rw [hW, hO]; exact bxs_new w v C
  have hsz : W.heap.size = O + 3 := by rw [hW, hO]; exact bxs_size w v C
  have hL : Loc B (O + 3) w W v v := by rw [← hsz, hW]; exact Loc.start ok (bxs_below w v C)
  have HW : Hid (((w.alloc (.cells v.cells 29)).alloc (.cells C 68)).alloc (.cells #[.pointer none, .int .i64 0, .int .i64 0, .int .i64 0, .slice none 0 0, .int .i64 0, .slice none 0 0] 29) = W) := hW.symm
  have HO : Hid (w.heap.size = O) := hO.symm
  have HSZ : Hid (W.heap.size = O + 3) := hsz
  have HL : Hid _ := hL
  have HB : Hid _ := hbx
  have c0 := hbx.box.c0
  have ck : W.cell? ⟨O + 1, 0, none⟩ = some (.int .i64 kd) := by rw [hC] at hbx; exact hbx.ckd
  have ci : W.cell? ⟨O + 1, 2, none⟩ = some (.int .i64 i) := by rw [hC] at hbx; exact hbx.ci
  have cn : W.cell? ⟨O + 1, 3, none⟩ = some (.int .i64 n) := by rw [hC] at hbx; exact hbx.cn
  have HC : Hid (C = opC kd two i n oa fl oc) := hC
  have HOK : Hid _ := ok
  have HBW : Hid (Below w.heap.size w W) := by rw [hW]; exact bxs_below w v C
  have hbox := hbx.box
  have hop := hbx.op
  have cb : W.cell? ⟨O + 1, 4, none⟩ = some (.slice oa fl oc) := by rw [hC] at hbx; exact hbx.cb
  have hC5 : C.size = 5 := by rw [hC]; rfl
  have hres1 := hbx.res
  have HS1 : Hid (Stepped B W W v v) := Stepped.id (HOK.out.below HBW.out) (Below.refl _ _)
  have q1 : (kd == 1) = false := by simp; omega
  have q2 : (kd == 2) = false := by simp; omega
  have q3 : (kd == 3) = false := by simp; omega
  have q4 : (kd == 4) = false := by simp; omega
  have q5 : (kd == 5) = false := by simp; omega
  have q6 : (kd == 6) = false := by simp; omega
  have q7 : (kd == 7) = false := by simp; omega
  have q8 : (kd == 8) = false := by simp; omega
  have q9 : (kd == 9) = false := by simp; omega
  have q10 : (kd == 10) = false := by simp; omega
  have q11 : (kd == 11) = false := by simp; omega
  clear hkd
  clear hW hO hsz hL hC ok hbx
  go_enter Try.func34, Try.ntmps34
  go_upto_region 1 with fail
  rw [HW.out, HO.out]
  go_wp2_with (first | (refine wpList_load_sd (.tmp 2) rfl O v rfl hbox rfl ?_) | (refine wpList_store_sd (.tmp 4) (.tmp 66) rfl rfl (O + 2) zS rfl v rfl rfl hres1 rfl ?_))
  intro w5 hR5 k5
  have HS5 : Hid _ := Stepped.wrap HOK.out HBW.out HO.out HSZ.out HS1.out k5
  have HR5 : Hid (SdAt w5 (O + 2) v) := hR5
  clear k5 hR5 hres1 hbox
  go_wp2
  (try simp only [Exit.inBlock, Exit.then])
  refine bodyPost_ret (results_sd_tmp rfl _ _ (O + 2) v rfl HR5.out) rfl ?_
  exact ⟨v, rfl, HS5.out, hX⟩
set_option maxRecDepth 100000 in
set_option maxHeartbeats 3200000 in
theorem step_write (B : Nat) (w : World) (v : SV) (ok : SideOk B w v) (two : Bool) (i n : Int) (oa : Option Addr) (fl oc : Nat) (hW1 : 0 < v.W.length) (X : SV → Prop) (Q : ∀ x, Below w.heap.size w x → Calls Try.prog 58 #[.agg v.cells, .agg (opC 10 two i n oa fl oc)] x fun e w1 => ∃ v', e = .returned (.agg v'.cells) ∧ Stepped B x w1 v v' ∧ X v') :
    Calls Try.prog 34 #[.agg v.cells, .agg (opC 10 two i n oa fl oc)] w fun e w' => ∃ v', e = .returned (.tuple #[.agg v'.cells, .bool true]) ∧ Stepped B w w' v v' ∧ X v' := by
  obtain ⟨C, hC⟩ : ∃ C, C = opC 10 two i n oa fl oc := ⟨_, rfl⟩
  rw [← hC]
  obtain ⟨W, hW⟩ : ∃ W, W = ((w.alloc (.cells v.cells 29)).alloc (.cells C 68)).alloc (.cells zS 29) := ⟨_, rfl⟩
  obtain ⟨O, hO⟩ : ∃ O, O = w.heap.size := ⟨_, rfl⟩
  have hbx : Bxs W O v C := by rw [hW, hO]; exact bxs_new w v C
  have hsz : W.heap.size = O + 3 := by rw [hW, hO]; exact bxs_size w v C
  have hL : Loc B (O + 3) w W v v := by rw [← hsz, hW]; exact Loc.start ok (bxs_below w v C)
  have HW : Hid (((w.alloc (.cells v.cells 29)).alloc (.cells C 68)).alloc (.cells #[.pointer none, .int .i64 0, .int .i64 0, .int .i64 0, .slice none 0 0, .int .i64 0, .slice none 0 0] 29) = W) := hW.symm
  have HO : Hid (w.heap.size = O) := hO.symm
  have HSZ : Hid (W.heap.size = O + 3) := hsz
  have HL : Hid _ := hL
  have HB : Hid _ := hbx
  have c0 := hbx.box.c0
  have ck : W.cell? ⟨O + 1, 0, none⟩ = some (.int .i64 10) := by rw [hC] at hbx; exact hbx.ckd
  have ci : W.cell? ⟨O + 1, 2, none⟩ = some (.int .i64 i) := by rw [hC] at hbx; exact hbx.ci
  have cn : W.cell? ⟨O + 1, 3, none⟩ = some (.int .i64 n) := by rw [hC] at hbx; exact hbx.cn
  have HC : Hid (C = opC 10 two i n oa fl oc) := hC
  have HOK : Hid _ := ok
  have HBW : Hid (Below w.heap.size w W) := by rw [hW]; exact bxs_below w v C
  have hbox := hbx.box
  have hop := hbx.op
  have cb : W.cell? ⟨O + 1, 4, none⟩ = some (.slice oa fl oc) := by rw [hC] at hbx; exact hbx.cb
  have hC5 : C.size = 5 := by rw [hC]; rfl
  have Q1 : Hid _ := Q W HBW.out
  rw [← hC] at Q1
  obtain ⟨N, hN⟩ : ∃ N, N = v.W.length := ⟨_, rfl⟩
  have c6 : W.cell? ⟨O, 6, none⟩ = some (.slice v.wa N v.wc) := by rw [hN]; exact hbox.c6
  have hN0 : 0 < N := by omega
  have hN1 : (0 : Int) < (N : Int) := by omega
  clear hW hO hsz hL hC ok hbx Q hN hW1
  go_enter Try.func34, Try.ntmps34
  go_upto_region 1 with fail
  rw [HW.out, HO.out]
  go_wp2_with (first | (refine wpList_load_sd (.tmp 2) rfl O v rfl hbox rfl ?_) | (refine wpList_load_op (.tmp 3) rfl (O + 1) C hC5 rfl hop rfl ?_))
  refine Calls.mono Q1.out ?_
  rintro e w1 ⟨v1, rfl, st, hX⟩
  have hbx1 := Stepped.res HOK.out HO.out HB.out st
  have hbox1 : w1.heap[O]? = some (.cells v.cells 29 (0, 0)) := hbx1.box
  have HBX1 : Hid _ := hbx1
  have HS1 : Hid _ := st
  have HX : Hid _ := hX
  clear Q1 st hX hbox hop c0 ck ci cn cb c6 hbx1
  go_wp2_with (first | (refine wpList_store_sd (.tmp 2) (.tmp 51) rfl rfl O v.cells rfl v1 rfl rfl hbox1 rfl ?_))
  intro w4 hbox4 k4
  have hres4 := (k4.block (O + 2) (Array.getElem?_eq_some_iff.1 HBX1.out.res).1 (show ¬ O + 2 = O by omega)).trans HBX1.out.res
  have nall : ∀ q, O ≤ q → q < O + 3 → ¬ v1.all q := fun q h1 h2 hq => by
    rcases HS1.out.new q hq with h3 | h3
    · have := HOK.out.lt q h3; have := HO.out; omega
    · have := HSZ.out; omega
  have HS4 : Hid _ := (Stepped.trans HBW.out HS1.out).local (X := O) (by have := HO.out; omega) (nall O (by omega) (by omega)) k4
  have HNA : Hid _ := nall (O + 2) (by omega) (by omega)
  clear k4 hbox1 nall
  go_wp2_with (first | (refine wpList_load_sd (.tmp 2) rfl O v1 rfl hbox4 rfl ?_) | (refine wpList_store_sd (.tmp 4) (.tmp 66) rfl rfl (O + 2) zS rfl v1 rfl rfl hres4 rfl ?_))
  intro w5 hR5 k5
  have HS5 : Hid _ := HS4.out.local (X := O + 2) (by have := HO.out; omega) HNA.out k5
  have HR5 : Hid (SdAt w5 (O + 2) v1) := hR5
  clear k5 hR5 hres4 hbox4
  go_wp2
  (try simp only [Exit.inBlock, Exit.then])
  refine bodyPost_ret (results_sd_tmp rfl _ _ (O + 2) v1 rfl HR5.out) rfl ?_
  exact ⟨v1, rfl, HS5.out, HX.out⟩
end Go.Proofs.Ythknkfggpdhdbaa
namespace Go.Proofs.Ythknkfggpdhdbaa
open Go.RowKit

/-- what a step does to the side, as far as it is wanted later -/
structure Eff (kd n : Int) (fr : List Nat) (v v' : SV) : Prop where
  refill : kd = 1 → v'.s = v.s.refilled (min n.toNat (min v.s.fr.length (v.s.rxn - v.s.rx.length)))
  arrive : kd = 2 → ArvS v.s v'.s fr
  poll : kd = 3 → 0 < v.s.filled → v'.W.length = v.W.length + 1
  keep : kd ≠ 3 → kd ≠ 4 → kd ≠ 5 → v'.W.length = v.W.length
theorem step_any (B : Nat) (w : World) (v : SV) (ok : SideOk B w v) (hnow : v.r.now + 8192 ≤ 4611686018427387904) (hW : v.W.length ≤ 1000000000) (kd : Int) (two : Bool) (i n : Int) (oa : Option Addr) (oc : Nat) (fr : List Nat) (hs : Seg .u8 w oa (toI fr)) (h256 : ∀ y ∈ fr, y < 256) (hfr : fr.length ≤ 140737488355000) (hop : ∀ y, fr ≠ [] → oa = some y → ¬ v.all y.block) :
    Calls Try.prog 34 #[.agg v.cells, .agg (opC kd two i n oa fr.length oc)] w fun e w' => ∃ v', e = .returned (.tuple #[.agg v'.cells, .bool true]) ∧ Stepped B w w' v v' ∧ Eff kd n fr v v' := by
  have far : kd < 1 ∨ 11 < kd ∨ kd = 1 ∨ kd = 2 ∨ kd = 3 ∨ kd = 4 ∨ kd = 5 ∨ kd = 6 ∨ kd = 7 ∨ kd = 8 ∨ kd = 9 ∨ kd = 10 ∨ kd = 11 := by omega
  rcases far with h | h | rfl | rfl | rfl | rfl | rfl | rfl | rfl | rfl | rfl | rfl | rfl
  · exact step_else B w v ok two i n oa fr.length oc kd (.inl h) (Eff kd n fr v) ⟨fun e => by omega, fun e => by omega, fun e => by omega, fun _ _ _ => rfl⟩
  · exact step_else B w v ok two i n oa fr.length oc kd (.inr h) (Eff kd n fr v) ⟨fun e => by omega, fun e => by omega, fun e => by omega, fun _ _ _ => rfl⟩
  · refine step_mov1 B w v ok two i n oa fr.length oc (Eff 1 n fr v) fun x hb => (moved_refill B x v (ok.below hb) hnow two i n oa fr.length oc).mono ?_
    rintro e w1 ⟨v', rfl, st, e1, e2⟩
    exact ⟨v', rfl, st, fun _ => e2, fun e => (by cases e), fun e => (by cases e), fun _ _ _ => by rw [e1]⟩
  · refine step_arr B w v ok two i n oa fr.length oc (Eff 2 n fr v) fun x hb => (arrived_any B x v (ok.below hb) hnow oa oc fr (hs.old hb) h256 hfr hop).mono ?_
    rintro e w1 ⟨v', rfl, st, e1, e2⟩
    exact ⟨v', rfl, st, fun e => (by cases e), fun _ => e2, fun e => (by cases e), fun _ _ _ => by rw [e1]⟩
  · refine step_ans3 B w v ok two i n oa fr.length oc (Eff 3 n fr v) fun x hb => ?_
    by_cases hf : v.s.filled = 0
    · refine (answered_poll0 B x v (ok.below hb) hnow two i n oa fr.length oc hf).mono ?_
      rintro e w1 ⟨v', rfl, st, e1⟩
      exact ⟨v', rfl, st, fun e => (by cases e), fun e => (by cases e), fun _ e => by omega, fun e => absurd rfl e⟩
    · refine (answered_poll1 B x v (ok.below hb) hnow hW two i n oa fr.length oc (by omega)).mono ?_
      rintro e w1 ⟨v', rfl, st, e1⟩
      exact ⟨v', rfl, st, fun e => (by cases e), fun e => (by cases e), fun _ _ => e1, fun e => absurd rfl e⟩
  · refine step_ans4 B w v ok two i n oa fr.length oc (Eff 4 n fr v) fun x hb => ?_
    by_cases hf : v.s.fr = []
    · refine (answered_take0 B x v (ok.below hb) hnow two i n oa fr.length oc hf).mono ?_
      rintro e w1 ⟨v', rfl, st, e1⟩
      exact ⟨v', rfl, st, fun e => (by cases e), fun e => (by cases e), fun e => (by cases e), fun _ e => absurd rfl e⟩
    · refine (answered_take1 B x v (ok.below hb) hnow hW two i n oa fr.length oc hf).mono ?_
      rintro e w1 ⟨v', rfl, st, e1⟩
      exact ⟨v', rfl, st, fun e => (by cases e), fun e => (by cases e), fun e => (by cases e), fun _ e => absurd rfl e⟩
  · refine step_ans5 B w v ok two i n oa fr.length oc (Eff 5 n fr v) fun x hb => ?_
    by_cases hf : hE v.s i = 0
    · refine (answered_buf1 B x v (ok.below hb) hW two i n oa fr.length oc hf).mono ?_
      rintro e w1 ⟨v', rfl, st, e1⟩
      exact ⟨v', rfl, st, fun e => (by cases e), fun e => (by cases e), fun e => (by cases e), fun _ _ e => absurd rfl e⟩
    · refine (answered_buf0 B x v (ok.below hb) two i n oa fr.length oc hf).mono ?_
      rintro e w1 ⟨v', rfl, st, e1⟩
      exact ⟨v', rfl, st, fun e => (by cases e), fun e => (by cases e), fun e => (by cases e), fun _ _ e => absurd rfl e⟩
  · refine step_mov6 B w v ok two i n oa fr.length oc (Eff 6 n fr v) fun x hb => (moved_release B x v (ok.below hb) hnow two i n oa fr.length oc).mono ?_
    rintro e w1 ⟨v', rfl, st, e1⟩
    exact ⟨v', rfl, st, fun e => (by cases e), fun e => (by cases e), fun e => (by cases e), fun _ _ _ => by rw [e1]⟩
  · refine step_mov7 B w v ok two i n oa fr.length oc (Eff 7 n fr v) fun x hb => (moved_send B x v (ok.below hb) hnow two i n oa fr.length oc).mono ?_
    rintro e w1 ⟨v', rfl, st, e1⟩
    exact ⟨v', rfl, st, fun e => (by cases e), fun e => (by cases e), fun e => (by cases e), fun _ _ _ => by rw [e1]⟩
  · refine step_mov8 B w v ok two i n oa fr.length oc (Eff 8 n fr v) fun x hb => (moved_drain B x v (ok.below hb) hnow two i n oa fr.length oc).mono ?_
    rintro e w1 ⟨v', rfl, st, e1⟩
    exact ⟨v', rfl, st, fun e => (by cases e), fun e => (by cases e), fun e => (by cases e), fun _ _ _ => by rw [e1]⟩
  · exact step_told B w v ok two i n oa fr.length oc (Eff 9 n fr v) ⟨fun e => (by cases e), fun e => (by cases e), fun e => (by cases e), fun _ _ _ => rfl⟩
  · by_cases h0 : v.W.length = 0
    · exact step_write0 B w v ok two i n oa fr.length oc h0 (Eff 10 n fr v) ⟨fun e => (by cases e), fun e => (by cases e), fun e => (by cases e), fun _ _ _ => rfl⟩
    · refine step_write B w v ok two i n oa fr.length oc (by omega) (Eff 10 n fr v) fun x hb => (written_any B x v (ok.below hb) (by omega) hW two i n oa oc fr (hs.old hb) h256 hfr hop).mono ?_
      rintro e w1 ⟨v', rfl, st, e1⟩
      exact ⟨v', rfl, st, fun e => (by cases e), fun e => (by cases e), fun e => (by cases e), fun _ _ _ => by rw [e1]⟩
  · by_cases h0 : v.W.length = 0
    · exact step_look0 B w v ok two i n oa fr.length oc h0 (Eff 11 n fr v) ⟨fun e => (by cases e), fun e => (by cases e), fun e => (by cases e), fun _ _ _ => rfl⟩
    · exact step_look B w v ok two i n oa fr.length oc (by omega) hW (Eff 11 n fr v) ⟨fun e => (by cases e), fun e => (by cases e), fun e => (by cases e), fun _ _ _ => rfl⟩
end Go.Proofs.Ythknkfggpdhdbaa
namespace Go.Proofs.Ythknkfggpdhdbaa
open Go.RowKit

theorem New_no (w : World) (rx tx pool size : Int) (h : nOut rx tx pool size) :
    Calls Try.prog 13 #[.int .i64 rx, .int .i64 tx, .int .i64 pool, .int .i64 size] w fun e w' => e = .returned (.tuple #[.pointer none, .int .i64 1]) ∧ w = w' := by
  have q1 : Hid _ := within_any rx 1 4096 w
  have q2 : Hid _ := within_any tx 1 4096 w
  have q3 : Hid _ := within_any pool 1 8192 w
  have q4 : Hid _ := within_any size 64 65535 w
  by_cases h0 : 1 ≤ rx ∧ rx ≤ 4096
  rotate_left
  · rw [decide_eq_false h0] at q1
    clear h h0
    go_enter Try.func13, Try.ntmps13
    go_wp2_with fail
    refine Calls.mono q1.out ?_
    rintro e w' ⟨rfl, rfl⟩
    go_wp2
    go_ret2
    exact ⟨rfl, rfl⟩
  by_cases h1 : 1 ≤ tx ∧ tx ≤ 4096
  rotate_left
  · rw [decide_eq_false h1] at q2
    rw [decide_eq_true h0] at q1
    clear h h0 h1
    go_enter Try.func13, Try.ntmps13
    go_wp2_with fail
    refine Calls.mono q1.out ?_
    rintro e w' ⟨rfl, rfl⟩
    go_wp2_with fail
    refine Calls.mono q2.out ?_
    rintro e w' ⟨rfl, rfl⟩
    go_wp2
    go_ret2
    exact ⟨rfl, rfl⟩
  by_cases h2 : 1 ≤ pool ∧ pool ≤ 8192
  rotate_left
  · rw [decide_eq_false h2] at q3
    rw [decide_eq_true h0] at q1
    rw [decide_eq_true h1] at q2
    clear h h0 h1 h2
    go_enter Try.func13, Try.ntmps13
    go_wp2_with fail
    refine Calls.mono q1.out ?_
    rintro e w' ⟨rfl, rfl⟩
    go_wp2_with fail
    refine Calls.mono q2.out ?_
    rintro e w' ⟨rfl, rfl⟩
    go_wp2_with fail
    refine Calls.mono q3.out ?_
    rintro e w' ⟨rfl, rfl⟩
    go_wp2
    go_ret2
    exact ⟨rfl, rfl⟩
  · have h3 : ¬ (64 ≤ size ∧ size ≤ 65535) := by unfold nOut at h; omega
    rw [decide_eq_false h3] at q4
    rw [decide_eq_true h0] at q1
    rw [decide_eq_true h1] at q2
    rw [decide_eq_true h2] at q3
    clear h h0 h1 h2 h3
    go_enter Try.func13, Try.ntmps13
    go_wp2_with fail
    refine Calls.mono q1.out ?_
    rintro e w' ⟨rfl, rfl⟩
    go_wp2_with fail
    refine Calls.mono q2.out ?_
    rintro e w' ⟨rfl, rfl⟩
    go_wp2_with fail
    refine Calls.mono q3.out ?_
    rintro e w' ⟨rfl, rfl⟩
    go_wp2_with fail
    refine Calls.mono q4.out ?_
    rintro e w' ⟨rfl, rfl⟩
    go_wp2
    go_ret2
    exact ⟨rfl, rfl⟩

def zV (P : Nat) (r : RV) : Array Value := #[.pointer (some ⟨P, 0, none⟩), .int .i64 r.rx, .int .i64 r.tx, .int .i64 r.size, .slice r.al r.L.length r.cl, .int .i64 r.now, .slice none 0 0]
theorem built_sd (P : Nat) (r : RV) : Try.prog.built 29 [(0, .pointer (some ⟨P, 0, none⟩)), (1, .agg r.cells)] = some (zV P r) := by kernel_rfl
theorem wpList_build_sd {ops : Array Oper} {rest : List Oper} {o : Oper} {a : Act} {w : World} {Q : Exit → Act → World → Prop} (x y : Operand) (ho : o.op = .build 29 #[(0, x), (1, y)]) (P : Nat) (r : RV) (hx : a.eval x = .pointer (some ⟨P, 0, none⟩)) (hy : a.eval y = .agg r.cells)
    (hw : Region.wanted o (yielded ops a.tmps) = true) (h : wpList Try.prog ops Q rest (a.put o.dst (.agg (zV P r))) w) : wpList Try.prog ops Q (o :: rest) a w := by
  refine wpList_step fun K hK => ?_
  rw [if_pos hw]
  unfold Oper.wp execOp
  have := run_build (P := Try.prog) w 29 #[(0, .pointer (some ⟨P, 0, none⟩)), (1, .agg r.cells)] (zV P r) (built_sd P r)
  simp only [ho, Sem.run_bind, List.map_toArray, List.map_cons, List.map_nil, hx, hy, this, Result.andThen_ok]
  exact hK _ _ h
theorem yields_build {ops : Array Oper} {S : World → Prop} {o : Oper} {a : Act} (x y : Operand) (ho : o.op = .build 29 #[(0, x), (1, y)]) (P : Nat) (r : RV) (hx : a.eval x = .pointer (some ⟨P, 0, none⟩)) (hy : a.eval y = .agg r.cells)
    (hw : Region.wanted o (yielded ops a.tmps) = true) : YieldsIf Try.prog ops S o (.agg (zV P r)) a := by
  refine .inl ⟨hw, fun w _ => ?_⟩
  unfold execOp
  have := run_build (P := Try.prog) w 29 #[(0, .pointer (some ⟨P, 0, none⟩)), (1, .agg r.cells)] (zV P r) (built_sd P r)
  simp only [ho, Sem.run_bind, List.map_toArray, List.map_cons, List.map_nil, hx, hy, this, Result.andThen_ok]
  rfl
theorem SideOk.base {B B' : Nat} {w : World} {v : SV} (h : SideOk B w v) (hb : B' ≤ B) : SideOk B' w v := ⟨h.port, h.inv, h.twin, h.ref, h.alr, owns_mono h.own hb, h.wins, fun q hq => Nat.le_trans hb (h.old q hq), h.dw, h.dd⟩
/-- a side that was made just now -/
theorem fresh_side {w w1 w2 : World} {P gb gf gr gt rx tx pool size c : Nat} {a : Option Addr} (hp : PortAt w1 P gb gf gr gt (newK rx tx pool size pool)) (hb1 : Below w.heap.size w w1) (hblk : ∀ q, PB P gb gf gr gt (newK rx tx pool size pool) q → w.heap.size ≤ q)
    (hr : RV.ok w2 (frV rx tx size a c pool pool)) (ha : ∀ p, a = some p → w1.heap.size ≤ p.block ∧ p.block < w2.heap.size) (hb2 : Below w1.heap.size w1 w2) : SideOk w.heap.size w2 ⟨P, gb, gf, gr, gt, newK rx tx pool size pool, frV rx tx size a c pool pool, none, 0, []⟩ := by
  have hnd : ∀ q, ¬ (frV rx tx size a c pool pool).dblk q := by
    rintro q ⟨y, hy, hd, _⟩
    obtain ⟨i, _, rfl⟩ := List.mem_map.1 (show y ∈ freshL pool from hy)
    exact hd rfl
  have hs1 := hb1.size
  refine ⟨hp.below hb2, newK_inv _ _ _ _, TwinR.fresh rx tx pool size a c, hr, fun p hp => (ha p hp).2, World.ownsRow_nil _ _ _ _, fun y hy => (by cases hy), ?_, fun q hq => (by cases hq), ?_⟩
  · rintro q ((hq | hq) | ⟨p, h1, rfl⟩ | hq)
    · exact hblk q hq
    · cases hq
    · have := (ha p h1).1; omega
    · exact absurd hq (hnd q)
  · rintro q (⟨p, h1, rfl⟩ | hq) hw
    · rcases hw with hw | hw
      · have h2 := pb_lt hp p.block hw
        have := (ha p h1).1
        omega
      · cases hw
    · exact absurd hq (hnd q)
set_option maxRecDepth 100000 in
set_option maxHeartbeats 3200000 in
theorem made_yes (w : World) (rx tx pool size : Nat) (h1 : 1 ≤ rx ∧ rx ≤ 4096) (h2 : 1 ≤ tx ∧ tx ≤ 4096) (h3 : 1 ≤ pool ∧ pool ≤ 8192) (h4 : 64 ≤ size ∧ size ≤ 65535) :
    Calls Try.prog 10 #[.int .i64 rx, .int .i64 tx, .int .i64 pool, .int .i64 size] w fun e w' => ∃ v, e = .returned (.tuple #[.agg v.cells, .bool true]) ∧ SideOk w.heap.size w' v ∧ Below w.heap.size w w' ∧ v.W = [] ∧ v.r.now ≤ 8192 ∧ v.s = newK rx tx pool size pool := by
  obtain ⟨W, hW⟩ : ∃ W, W = w.alloc (.cells zS 29) := ⟨_, rfl⟩
  obtain ⟨O, hO⟩ : ∃ O, O = w.heap.size := ⟨_, rfl⟩
  have hb0 : Below w.heap.size w W := by rw [hW]; exact (Below.refl _ _).alloc (Nat.le_refl _) _
  have hres : W.heap[O]? = some (.cells zS 29 (0, 0)) := by rw [hW, hO]; exact heap_alloc_new _ _
  have HW : Hid (w.alloc (.cells #[.pointer none, .int .i64 0, .int .i64 0, .int .i64 0, .slice none 0 0, .int .i64 0, .slice none 0 0] 29) = W) := hW.symm
  have HO : Hid (w.heap.size = O) := hO.symm
  have HB0 : Hid _ := hb0
  have HRS : Hid _ := hres
  have Q1 : Hid _ := New_yes W rx tx pool size h1.1 h1.2 h2.1 h2.2 h3.1 h3.2 h4.1 h4.2
  have Q2 : Hid (∀ x, Calls Try.prog 35 #[.int .i64 rx, .int .i64 tx, .int .i64 pool, .int .i64 size] x fun e w' => ∃ a c, e = .returned (.tuple #[.agg (frV rx tx size a c pool pool).cells, .int .i64 0]) ∧ RV.ok w' (frV rx tx size a c pool pool) ∧ (∀ p, a = some p → x.heap.size ≤ p.block ∧ p.block < w'.heap.size) ∧ Below x.heap.size x w') := fun x => newR_yes x rx tx pool size h1 h2 h3 h4
  have hp8 := h3.2
  clear hW hO hb0 hres h1 h2 h3 h4
  go_enter Try.func10, Try.ntmps10
  go_upto_region 1 with fail
  rw [HW.out, HO.out]
  go_wp2_with fail
  refine Calls.mono Q1.out ?_
  rintro e w1 ⟨P, gb, gf, gr, gt, rfl, hp, hq1, hblk⟩
  have HP : Hid _ := hp
  have HQ1 : Hid _ := hq1
  have HBL : Hid _ := hblk
  clear Q1 hp hq1 hblk
  go_wp2_with fail
  refine Calls.mono (Q2.out w1) ?_
  rintro e w2 ⟨a, c, rfl, ok2, ha2, hb2⟩
  have SO := fresh_side HP.out HQ1.out HBL.out ok2 ha2 hb2
  have HB2 : Hid (Below W.heap.size W w2) := HQ1.out.trans (hb2.mono HQ1.out.size)
  obtain ⟨v, hv⟩ : ∃ v : SV, v = ⟨P, gb, gf, gr, gt, newK rx tx pool size pool, frV rx tx size a c pool pool, none, 0, []⟩ := ⟨_, rfl⟩
  rw [← hv] at SO
  obtain ⟨r2, hr2⟩ : ∃ r2, r2 = frV rx tx size a c pool pool := ⟨_, rfl⟩
  rw [← hr2]
  have HV : Hid (v = ⟨P, gb, gf, gr, gt, newK rx tx pool size pool, r2, none, 0, []⟩) := by rw [hr2]; exact hv
  have HVC : Hid (#[.pointer (some ⟨P, 0, none⟩), .int .i64 r2.rx, .int .i64 r2.tx, .int .i64 r2.size, .slice r2.al r2.L.length r2.cl, .int .i64 r2.now, .slice none 0 0] = v.cells) := by show _ = _; rw [HV.out]; rfl
  have HNW : Hid (r2.now ≤ 8192) := by show _ ≤ _; rw [hr2]; exact hp8
  have HSO : Hid _ := SO
  have hz := pz w2
  clear Q2 SO ok2 ha2 hb2 hv hr2 HP HQ1 HBL hp8
  go_wp2_with (first | (refine wpList_store_rp (.tmp 12) (.tmp 28) rfl rfl w2.heap.size rz r2 rfl rfl hz rfl ?_))
  intro w3 hR3 k3
  have h0a : Below w2.heap.size w2 (w2.alloc (.cells #[.int .i64 0, .int .i64 0, .int .i64 0, .slice none 0 0, .int .i64 0] 26)) := (Below.refl _ _).alloc (Nat.le_refl _) _
  have b23 : Below w2.heap.size w2 w3 := h0a.trans (k3.below (fun q e => by have e' : q = w2.heap.size := e; omega) h0a.size)
  have HB3 : Hid (Below W.heap.size W w3) := HB2.out.trans (b23.mono HB2.out.size)
  have HSO3 : Hid _ := HSO.out.below b23
  have hres3 := (HB3.out.block O (Array.getElem?_eq_some_iff.1 HRS.out).1).trans HRS.out
  have QN : Hid _ := num_any 0 w3
  clear h0a k3 b23 hz HSO
  go_wp2_with fail
  refine Calls.mono QN.out ?_
  rintro e wN ⟨rfl, rfl⟩
  go_wp2_with (first | (refine wpList_load_rp (.tmp 12) rfl w2.heap.size r2 rfl hR3 rfl ?_) | (refine wpList_build_sd (.tmp 44) (.tmp 45) rfl P r2 rfl rfl rfl ?_) | (refine wpList_store_sd (.tmp 8) (.tmp 46) rfl rfl O zS rfl ⟨P, gb, gf, gr, gt, newK rx tx pool size pool, r2, none, 0, []⟩ rfl rfl hres3 rfl ?_))
  intro w5 hR5 k5
  have HR5 : Hid _ := hR5
  rw [← HV.out] at HR5
  have hOW : O < W.heap.size := (Array.getElem?_eq_some_iff.1 HRS.out).1
  have HSO5 : Hid _ := (HSO3.out.ch k5 (fun q hq e => by have e' : q = O := e; have := HSO3.out.old q hq; omega)).base HB0.out.size
  have HB5 : Hid (Below w.heap.size w w5) := (HB0.out.trans (HB3.out.mono HB0.out.size)).trans (k5.below (fun q e => by have e' : q = O := e; have := HO.out; omega) (Nat.le_trans HB0.out.size HB3.out.size))
  clear hR5 k5 hres3 hR3 QN
  go_wp2
  (try simp only [Exit.inBlock, Exit.then])
  refine bodyPost_ret (results_sd_tmp rfl _ _ O v rfl HR5.out) rfl ?_
  exact ⟨v, rfl, HSO5.out, HB5.out, by rw [HV.out], by rw [HV.out]; exact HNW.out, by rw [HV.out]⟩
set_option maxRecDepth 100000 in
set_option maxHeartbeats 6400000 in
theorem made_no (w : World) (rx tx pool size : Int) (h : nOut rx tx pool size) :
    Calls Try.prog 10 #[.int .i64 rx, .int .i64 tx, .int .i64 pool, .int .i64 size] w fun e w' => ∃ v, e = .returned (.tuple #[.agg v.cells, .bool true]) ∧ SideOk w.heap.size w' v ∧ Below w.heap.size w w' ∧ v.W = [] ∧ v.r.now ≤ 8192 := by
  obtain ⟨W, hW⟩ : ∃ W, W = w.alloc (.cells zS 29) := ⟨_, rfl⟩
  obtain ⟨O, hO⟩ : ∃ O, O = w.heap.size := ⟨_, rfl⟩
  have hb0 : Below w.heap.size w W := by rw [hW]; exact (Below.refl _ _).alloc (Nat.le_refl _) _
  have hres : W.heap[O]? = some (.cells zS 29 (0, 0)) := by rw [hW, hO]; exact heap_alloc_new _ _
  have HW : Hid (w.alloc (.cells #[.pointer none, .int .i64 0, .int .i64 0, .int .i64 0, .slice none 0 0, .int .i64 0, .slice none 0 0] 29) = W) := hW.symm
  have HO : Hid (w.heap.size = O) := hO.symm
  have HB0 : Hid _ := hb0
  have HRS : Hid _ := hres
  have Q1 : Hid _ := New_no W rx tx pool size h
  have Q2 : Hid _ := newR_no W rx tx pool size h
  have Q3 : Hid (∀ x, Calls Try.prog 13 #[.int .i64 2, .int .i64 2, .int .i64 3, .int .i64 64] x fun e w' => ∃ P gb gf gr gt, e = .returned (.tuple #[.pointer (some ⟨P, 0, none⟩), .int .i64 0]) ∧ PortAt w' P gb gf gr gt (newK 2 2 3 64 3) ∧ Below x.heap.size x w' ∧ ∀ q, PB P gb gf gr gt (newK 2 2 3 64 3) q → x.heap.size ≤ q) := fun x => New_yes x 2 2 3 64 (by decide) (by decide) (by decide) (by decide) (by decide) (by decide) (by decide) (by decide)
  have Q4 : Hid (∀ x, Calls Try.prog 35 #[.int .i64 2, .int .i64 2, .int .i64 3, .int .i64 64] x fun e w' => ∃ a c, e = .returned (.tuple #[.agg (frV 2 2 64 a c 3 3).cells, .int .i64 0]) ∧ RV.ok w' (frV 2 2 64 a c 3 3) ∧ (∀ p, a = some p → x.heap.size ≤ p.block ∧ p.block < w'.heap.size) ∧ Below x.heap.size x w') := fun x => newR_yes x 2 2 3 64 (by decide) (by decide) (by decide) (by decide)
  clear hW hO hb0 hres h
  go_enter Try.func10, Try.ntmps10
  go_upto_region 1 with fail
  rw [HW.out, HO.out]
  go_wp2_with fail
  refine Calls.mono Q1.out ?_
  rintro e w1 ⟨rfl, rfl⟩
  clear Q1
  go_wp2_with fail
  refine Calls.mono Q2.out ?_
  rintro e w2 ⟨rfl, hb2⟩
  have HB2 : Hid _ := hb2
  have hz := pz w2
  clear Q2 hb2
  go_wp2_with (first | (refine wpList_store_rp (.tmp 12) (.tmp 28) rfl rfl w2.heap.size rz rz rfl rfl hz rfl ?_))
  intro w3 hR3 k3
  have h0a : Below w2.heap.size w2 (w2.alloc (.cells #[.int .i64 0, .int .i64 0, .int .i64 0, .slice none 0 0, .int .i64 0] 26)) := (Below.refl _ _).alloc (Nat.le_refl _) _
  have b23 : Below w2.heap.size w2 w3 := h0a.trans (k3.below (fun q e => by have e' : q = w2.heap.size := e; omega) h0a.size)
  have HB3 : Hid (Below W.heap.size W w3) := HB2.out.trans (b23.mono HB2.out.size)
  obtain ⟨A, hA⟩ : ∃ A, A = w2.heap.size := ⟨_, rfl⟩
  rw [← hA] at hR3 ⊢
  have HA : Hid (W.heap.size ≤ A) := by show _ ≤ _; rw [hA]; exact HB2.out.size
  have QN : Hid _ := num_any 1 w3
  clear h0a k3 b23 hz hA
  go_wp2_with fail
  refine Calls.mono QN.out ?_
  rintro e wN ⟨rfl, rfl⟩
  clear QN
  go_wp2_with fail
  refine Calls.mono (Q3.out w3) ?_
  rintro e w4 ⟨P, gb, gf, gr, gt, rfl, hp, hq4, hblk⟩
  have HP : Hid _ := hp
  have HQ4 : Hid _ := hq4
  have HBL : Hid _ := hblk
  have hR4 := RpAt.below hR3 hq4
  have HAL : Hid (A < w3.heap.size) := RpAt.lt hR3
  clear Q3 hp hq4 hblk hR3
  go_wp2_with fail
  refine Calls.mono (Q4.out w4) ?_
  rintro e w5 ⟨a, c, rfl, ok5, ha5, hb5⟩
  have SO := fresh_side HP.out HQ4.out HBL.out ok5 ha5 hb5
  have HB5 : Hid (Below W.heap.size W w5) := (HB3.out.trans (HQ4.out.mono HB3.out.size)).trans (hb5.mono (Nat.le_trans HB3.out.size HQ4.out.size))
  have hR5 := RpAt.below hR4 hb5
  obtain ⟨r2, hr2⟩ : ∃ r2, r2 = frV 2 2 64 a c 3 3 := ⟨_, rfl⟩
  rw [← hr2] at SO ⊢
  have HNW : Hid (r2.now ≤ 8192) := by show _ ≤ _; rw [hr2]; show 3 ≤ 8192; decide
  have HSO : Hid _ := SO
  clear Q4 SO ok5 ha5 hb5 hr2 HP HQ4 HBL hR4
  go_wp2_with (first | (refine wpList_store_rp (.tmp 12) (.tmp 53) rfl rfl A rz r2 rfl rfl hR5 rfl ?_))
  intro w6 hR6 k6
  have HSO6 : Hid _ := (HSO.out.ch k6 (fun q hq e => by have e' : q = A := e; have := HSO.out.old q hq; have := HAL.out; omega)).base (Nat.le_trans HB0.out.size HB3.out.size)
  have HB6 : Hid (Below W.heap.size W w6) := HB5.out.trans (k6.below (fun q e => by have e' : q = A := e; have := HA.out; omega) HB5.out.size)
  obtain ⟨v, hv⟩ : ∃ v : SV, v = ⟨P, gb, gf, gr, gt, newK 2 2 3 64 3, r2, none, 0, []⟩ := ⟨_, rfl⟩
  rw [← hv] at HSO6
  have HV : Hid (v = ⟨P, gb, gf, gr, gt, newK 2 2 3 64 3, r2, none, 0, []⟩) := hv
  have HVC : Hid (zV P r2 = v.cells) := by show _ = _; rw [hv]; rfl
  have HOLD : Hid (w3.heap.size ≤ w5.heap.size ∧ O < W.heap.size) := ⟨by have := HSO.out.old v.P (by rw [hv]; exact .inl (.inl (.inl rfl))); have := HSO.out.lt v.P (by rw [hv]; exact .inl (.inl (.inl rfl))); omega, (Array.getElem?_eq_some_iff.1 HRS.out).1⟩
  have HON : Hid (¬ v.all O) := by
    intro hq
    rw [hv] at hq
    have h1 := HSO.out.old O hq
    have h2 := HB3.out.size
    have h3 := HOLD.out.2
    omega
  clear k6 hv HSO hR5
  go_wp2
  refine MixH.start (fun x => RpAt x A r2) (by kernel_rfl) ?_
  obtain ⟨wA, hwA⟩ : ∃ wA, wA = w6.drew := ⟨_, rfl⟩
  have hS : RpAt wA A r2 := by rw [hwA]; exact hR6
  have HBA : Hid (Below W.heap.size W wA) := by rw [hwA]; exact HB6.out.drew
  have HSA : Hid _ := HSO6.out.below (Below.refl w6.heap.size w6).drew
  rw [← hwA] at HSA ⊢
  have hresA := (HBA.out.block O HOLD.out.2).trans HRS.out
  clear hwA hR6
  refine MixH.takes [true, false, false, true, true, true, true] 7 (by kernel_rfl) (by kernel_rfl) (by decide) (by kernel_rfl) hS (fun K hK => ?_)
  simp only [Mix.pick]
  repeat (go_big_quiet_step (fail))
  refine wpQuiet_nil (hK _ ?_)
  clear hK K
  refine MixH.take 6 1 _ (.agg r2.cells) rfl (by kernel_rfl) (by kernel_rfl) (by kernel_rfl) (by kernel_rfl) (yields_rp (.tmp 12) rfl A r2 rfl rfl) hS (fun a' ha => ?_)
  simp only [Act.put, List.setIfInBounds_toArray, List.set_cons_succ, List.set_cons_zero] at ha
  subst ha
  refine MixH.take 5 2 _ (.agg (zV P r2)) rfl (by kernel_rfl) (by kernel_rfl) (by kernel_rfl) (by kernel_rfl) (yields_build (.tmp 55) (.tmp 56) rfl P r2 rfl rfl rfl) hS (fun a' ha => ?_)
  simp only [Act.put, List.setIfInBounds_toArray, List.set_cons_succ, List.set_cons_zero] at ha
  subst ha
  refine MixH.one [false, false, false, false, false, false, false, true] 4 7 _ rfl rfl (by kernel_rfl) (by kernel_rfl) (fun K hK => ?_)
  simp only [Mix.pick]
  have QN : Hid _ := num_any 0 wA
  go_wp2_with fail
  refine Calls.mono QN.out ?_
  rintro e wN ⟨rfl, rfl⟩
  clear QN
  go_wp2
  refine ⟨rfl, hK _ _ hS ?_⟩
  clear hK K
  refine MixH.takes [false, false, false, false, false, false, false, false, true, true] 2 (by kernel_rfl) (by kernel_rfl) (by decide) (by kernel_rfl) hS (fun K hK => ?_)
  simp only [Mix.pick]
  repeat (go_big_quiet_step (fail))
  refine wpQuiet_nil (hK _ ?_)
  clear hK K
  refine MixH.one [false, false, false, false, false, false, false, false, false, false, true] 1 10 _ rfl rfl (by kernel_rfl) (by kernel_rfl) (fun K hK => ?_)
  simp only [Mix.pick]
  rw [HVC.out]
  refine wpList_store_sd (.tmp 8) (.tmp 57) rfl rfl O zS rfl v rfl rfl hresA rfl ?_
  intro w7 hR7 k7
  have HR7 : Hid (SdAt w7 O v) := hR7
  have HS7 : Hid _ := HSA.out.ch k7 (fun q hq e => by have e' : q = O := e; subst e'; exact HON.out hq)
  have HB7 : Hid (Below w.heap.size w w7) := (HB0.out.trans (HBA.out.mono HB0.out.size)).trans (k7.below (fun q e => by have e' : q = O := e; have := HO.out; omega) (Nat.le_trans HB0.out.size HBA.out.size))
  replace hS := RpAt.ch hS k7 (by have := HA.out; have := HOLD.out.2; show ¬ A = O; omega)
  clear k7 hR7 hresA
  go_wp2
  refine ⟨rfl, hK _ _ hS ?_⟩
  clear hK K
  refine MixH.takes [false, false, false, false, false, false, false, false, false, false, false, true] 0 (by kernel_rfl) (by kernel_rfl) (by decide) (by kernel_rfl) hS (fun K hK => ?_)
  simp only [Mix.pick]
  repeat (go_big_quiet_step (fail))
  refine wpQuiet_nil (hK _ ?_)
  clear hK K
  refine MixH.done (by kernel_rfl) ?_
  go_wp2
  (try simp only [Exit.inBlock, Exit.then])
  refine bodyPost_ret (results_sd_tmp rfl _ _ O v rfl HR7.out) rfl ?_
  exact ⟨v, rfl, HS7.out, HB7.out, by rw [HV.out], by rw [HV.out]; exact HNW.out⟩
end Go.Proofs.Ythknkfggpdhdbaa
namespace Go.Proofs.Ythknkfggpdhdbaa
open Go.RowKit

def fC (b1 b3 : Nat) : Array Value := #[.int .i64 1, .bool false, .int .i64 0, .int .i64 1, .slice none 0 0, .int .i64 2, .bool false, .int .i64 0, .int .i64 0, .slice (some ⟨b1, 0, none⟩) 3 3, .int .i64 3, .bool false, .int .i64 0, .int .i64 0, .slice none 0 0, .int .i64 10, .bool false, .int .i64 0, .int .i64 0, .slice (some ⟨b3, 0, none⟩) 1 1, .int .i64 7, .bool false, .int .i64 0, .int .i64 3, .slice none 0 0, .int .i64 11, .bool false, .int .i64 0, .int .i64 0, .slice none 0 0, .int .i64 9, .bool false, .int .i64 0, .int .i64 0, .slice none 0 0, .int .i64 8, .bool false, .int .i64 0, .int .i64 0, .slice none 0 0]
def oK (k : Nat) : Int := ([1, 2, 3, 10, 7, 11, 9, 8] : List Int).getD k 0
def oN (k : Nat) : Int := ([1, 0, 0, 0, 3, 0, 0, 0] : List Int).getD k 0
def oF (k : Nat) : List Nat := ([[], [97, 98, 99], [], [122], [], [], [], []] : List (List Nat)).getD k []
def oA (b1 b3 : Nat) (k : Nat) : Option Addr := ([none, some ⟨b1, 0, none⟩, none, some ⟨b3, 0, none⟩, none, none, none, none] : List (Option Addr)).getD k none
theorem fC_at (b1 b3 k : Nat) (hk : k < 8) : ∀ j u, (opC (oK k) false 0 (oN k) (oA b1 b3 k) (oF k).length (oF k).length).toList[j]? = some u → (fC b1 b3)[k * 5 + j]? = some u := by
  intro j u hu
  have hj : j < 5 := by have := (List.getElem?_eq_some_iff.1 hu).1; simpa [opC] using this
  rcases (show k = 0 ∨ k = 1 ∨ k = 2 ∨ k = 3 ∨ k = 4 ∨ k = 5 ∨ k = 6 ∨ k = 7 by omega) with rfl | rfl | rfl | rfl | rfl | rfl | rfl | rfl <;>
  rcases (show j = 0 ∨ j = 1 ∨ j = 2 ∨ j = 3 ∨ j = 4 by omega) with rfl | rfl | rfl | rfl | rfl <;> exact hu
theorem oF_256 (k : Nat) (hk : k < 8) : ∀ y ∈ oF k, y < 256 := by
  intro y hy
  rcases (show k = 0 ∨ k = 1 ∨ k = 2 ∨ k = 3 ∨ k = 4 ∨ k = 5 ∨ k = 6 ∨ k = 7 by omega) with rfl | rfl | rfl | rfl | rfl | rfl | rfl | rfl <;> simp [oF] at hy <;> omega
theorem oF_len (k : Nat) (hk : k < 8) : (oF k).length ≤ 3 := by
  rcases (show k = 0 ∨ k = 1 ∨ k = 2 ∨ k = 3 ∨ k = 4 ∨ k = 5 ∨ k = 6 ∨ k = 7 by omega) with rfl | rfl | rfl | rfl | rfl | rfl | rfl | rfl <;> decide
/-- what is known of the side ahead of the step k -/
structure Sk (k : Nat) (v : SV) : Prop where
  k0 : k = 0 → v.s = newK 1 1 2 64 2
  k1 : k = 1 → v.s = (newK 1 1 2 64 2).refilled 1
  k2 : k = 2 → 0 < v.s.filled
  lo : k ≤ 2 → v.W.length = 0
  hi : 3 ≤ k → v.W.length = 1
theorem Sk.next {k : Nat} {v v' : SV} (h : Sk k v) (hk : k < 8) (e : Eff (oK k) (oN k) (oF k) v v') : Sk (k + 1) v' := by
  rcases (show k = 0 ∨ k = 1 ∨ k = 2 ∨ k = 3 ∨ k = 4 ∨ k = 5 ∨ k = 6 ∨ k = 7 by omega) with rfl | rfl | rfl | rfl | rfl | rfl | rfl | rfl
  · have h1 := e.refill rfl
    have h2 := e.keep (by decide) (by decide) (by decide)
    rw [h.k0 rfl] at h1
    exact ⟨fun e => by omega, fun _ => h1, fun e => by omega, fun _ => by rw [h2]; exact h.lo (by omega), fun e => by omega⟩
  · have h1 := e.arrive rfl
    have h2 := e.keep (by decide) (by decide) (by decide)
    rw [h.k1 rfl] at h1
    refine ⟨fun e => by omega, fun e => by omega, fun _ => ?_, fun _ => by rw [h2]; exact h.lo (by omega), fun e => by omega⟩
    rcases h1 with ⟨h3, _⟩ | ⟨_, _, b, _, h4⟩
    · exact absurd (show aE ((newK 1 1 2 64 2).refilled 1) 3 = 0 by decide) h3
    · rw [h4]; exact Nat.succ_pos _
  · have h1 := e.poll rfl (h.k2 rfl)
    have h2 := h.lo (by omega)
    exact ⟨fun e => by omega, fun e => by omega, fun e => by omega, fun e => by omega, fun _ => by omega⟩
  all_goals
    have h2 := e.keep (by decide) (by decide) (by decide)
    have h3 := h.hi (by omega)
    exact ⟨fun e => by omega, fun e => by omega, fun e => by omega, fun e => by omega, fun _ => by omega⟩
theorem Try.sizeOps : (Try.prog.info? 74).map (·.size) = some 40 := by kernel_rfl
/-- the steps in a block of their own -/
def FcAt (w : World) (FB b1 b3 : Nat) : Prop := w.heap[FB]? = some (.cells (fC b1 b3) 74 (0, 0))
theorem FcAt.range {w : World} {FB b1 b3 : Nat} (h : FcAt w FB b1 b3) (k : Nat) (hk : k < 8) : w.rangeAt FB (k * 5) (opC (oK k) false 0 (oN k) (oA b1 b3 k) (oF k).length (oF k).length).toList := by
  intro j u hu
  have := fC_at b1 b3 k hk j u hu
  unfold FcAt at h
  simp only [World.cell?, h]
  exact this
theorem wpList_build_any {ops : Array Oper} {rest : List Oper} {o : Oper} {a : Act} {w : World} {Q : Exit → Act → World → Prop} (parts : Array (Nat × Operand)) (ho : o.op = .build 74 parts) (C : Array Value) (hb : Try.prog.built 74 (parts.map fun (i, x) => (i, a.eval x)).toList = some C)
    (hw : Region.wanted o (yielded ops a.tmps) = true) (h : wpList Try.prog ops Q rest (a.put o.dst (.agg C)) w) : wpList Try.prog ops Q (o :: rest) a w := by
  refine wpList_step fun K hK => ?_
  rw [if_pos hw]
  refine wp_build 74 parts ho (by rw [hb]; rfl) ?_
  rw [hb]
  exact hK _ _ h
def zC : Array Value := #[.int .i64 0, .bool false, .int .i64 0, .int .i64 0, .slice none 0 0, .int .i64 0, .bool false, .int .i64 0, .int .i64 0, .slice none 0 0, .int .i64 0, .bool false, .int .i64 0, .int .i64 0, .slice none 0 0, .int .i64 0, .bool false, .int .i64 0, .int .i64 0, .slice none 0 0, .int .i64 0, .bool false, .int .i64 0, .int .i64 0, .slice none 0 0, .int .i64 0, .bool false, .int .i64 0, .int .i64 0, .slice none 0 0, .int .i64 0, .bool false, .int .i64 0, .int .i64 0, .slice none 0 0, .int .i64 0, .bool false, .int .i64 0, .int .i64 0, .slice none 0 0]
theorem wpList_store_fc {ops : Array Oper} {rest : List Oper} {o : Oper} {a : Act} {w : World} {Q : Exit → Act → World → Prop} (x y : Operand) (ho : o.op = .store 74 x y) (hd : o.dst = none) (FB b1 b3 : Nat) (hx : a.eval x = .pointer (some ⟨FB, 0, none⟩)) (hy : a.eval y = .agg (fC b1 b3)) (hb : w.heap[FB]? = some (.cells zC 74 (0, 0)))
    (hw : Region.wanted o (yielded ops a.tmps) = true) (h : ∀ w', FcAt w' FB b1 b3 → Ch (fun q => q = FB) w w' → wpList Try.prog ops Q rest a w') : wpList Try.prog ops Q (o :: rest) a w := by
  refine wpList_step fun K hK => ?_
  rw [if_pos hw]
  refine wp_store_row 74 x y ho FB (fC b1 b3) hx hy _ zC hb Try.sizeOps rfl (by simp [fC, Value.oneCell']) (hK _ _ ?_)
  rw [hd]
  refine h _ (setRow_heap w FB zC (fC b1 b3) _ _ hb) ⟨rfl, rfl, rfl, ?_, ?_⟩
  · simp [World.setRow]
  · intro k hk hne
    simp only [World.setRow]
    rw [Array.getElem?_modify, if_neg (fun e => hne e.symm)]
theorem wpList_alloc_fc {ops : Array Oper} {rest : List Oper} {o : Oper} {a : Act} {w : World} {Q : Exit → Act → World → Prop} (FB : Nat) (hFB : w.heap.size = FB) (ho : o.op = .alloc 74)
    (hw : Region.wanted o (yielded ops a.tmps) = true) (h : wpList Try.prog ops Q rest (a.put o.dst (.pointer (some ⟨FB, 0, none⟩))) (w.alloc (.cells zC 74))) : wpList Try.prog ops Q (o :: rest) a w := by
  subst hFB
  refine wpList_step fun K hK => ?_
  rw [if_pos hw]
  unfold Oper.wp
  have hrun : (execOp a.eval o).run Try.prog w = .ok (.value (.pointer (some ⟨w.heap.size, 0, none⟩))) (w.alloc (.cells zC 74)) := by
    simp [execOp, ho, Instr.alloc, go_sem]
    rfl
  rw [hrun]
  exact hK _ _ h
/-- ahead of the step k -/
structure Sd (w wr : World) (v : SV) (S0 b1 b3 FB k : Nat) : Prop where
  ok : SideOk w.heap.size wr v
  box : SdAt wr S0 v
  fc : FcAt wr FB b1 b3
  s1 : Seg .u8 wr (some ⟨b1, 0, none⟩) (toI [97, 98, 99])
  s3 : Seg .u8 wr (some ⟨b3, 0, none⟩) (toI [122])
  bel : Below w.heap.size w wr
  far : ∀ q, S0 ≤ q → q ≤ FB → ¬ v.all q
  sk : Sk k v
  now : v.r.now ≤ 8192 * (k + 1)
theorem Sd.seg {w wr : World} {v : SV} {S0 b1 b3 FB k : Nat} (h : Sd w wr v S0 b1 b3 FB k) (hk : k < 8) : Seg .u8 wr (oA b1 b3 k) (toI (oF k)) := by
  rcases (show k = 0 ∨ k = 1 ∨ k = 2 ∨ k = 3 ∨ k = 4 ∨ k = 5 ∨ k = 6 ∨ k = 7 by omega) with rfl | rfl | rfl | rfl | rfl | rfl | rfl | rfl
  · exact .inl rfl
  · exact h.s1
  · exact .inl rfl
  · exact h.s3
  all_goals exact .inl rfl
theorem oA_blk {b1 b3 k : Nat} {y : Addr} (hk : k < 8) (h : oA b1 b3 k = some y) : y.block = b1 ∨ y.block = b3 := by
  rcases (show k = 0 ∨ k = 1 ∨ k = 2 ∨ k = 3 ∨ k = 4 ∨ k = 5 ∨ k = 6 ∨ k = 7 by omega) with rfl | rfl | rfl | rfl | rfl | rfl | rfl | rfl <;> simp [oA] at h <;> subst h <;> simp
/-- behind the step k, its side stored -/
theorem Sd.next {w wr w2 w3 : World} {v v' : SV} {S0 b1 b3 FB k : Nat} (h : Sd w wr v S0 b1 b3 FB k) (hk : k < 8) (h1 : S0 < b1) (h2 : b1 < b3) (h3 : b3 < FB) (hS : w.heap.size ≤ S0) (hF : FB < wr.heap.size) (st : Stepped w.heap.size wr w2 v v') (e : Eff (oK k) (oN k) (oF k) v v') (hb : SdAt w3 S0 v') (k3 : Ch (fun q => q = S0) w2 w3) : Sd w w3 v' S0 b1 b3 FB (k + 1) := by
  have far' : ∀ q, S0 ≤ q → q ≤ FB → ¬ v'.all q := fun q g1 g2 hq => by
    rcases st.new q hq with g | g
    · exact h.far q g1 g2 g
    · omega
  have nw : ∀ q, S0 ≤ q → q ≤ FB → ¬ v.wr q := fun q g1 g2 g => h.far q g1 g2 (.inl g)
  have kk : Ch (fun q => v.wr q ∨ q = S0) wr w3 := (st.ch.mono (fun q _ e => .inl e)).trans k3 (fun q _ e => .inr e)
  have n1 : ∀ q, S0 < q → q ≤ FB → ¬ (v.wr q ∨ q = S0) := fun q g1 g2 g => g.elim (nw q (by omega) g2) (by omega)
  refine ⟨st.ok.ch k3 (fun q hq e => ?_), hb, (kk.block FB hF (n1 FB (by omega) (by omega))).trans h.fc, kk.seg h.s1 (fun y _ hy => ?_), kk.seg h.s3 (fun y _ hy => ?_), h.bel.trans (kk.below (fun q g => ?_) h.bel.size), far', h.sk.next hk e, ?_⟩
  · have e' : q = S0 := e
    exact far' q (by omega) (by omega) hq
  · have := Option.some.inj hy
    subst this
    exact n1 b1 (by omega) (by omega)
  · have := Option.some.inj hy
    subst this
    exact n1 b3 (by omega) (by omega)
  · rcases g with g | g
    · exact h.ok.old q (.inl g)
    · omega
  · have := st.now
    have := h.now
    omega
set_option maxRecDepth 100000 in
set_option maxHeartbeats 12800000 in
theorem started_any (w : World) : Calls Try.prog 9 #[] w fun e w' => e = .returned (.bool true) ∧ Below w.heap.size w w' := by
  have Q1 : Hid (Calls Try.prog 10 #[.int .i64 1, .int .i64 1, .int .i64 2, .int .i64 64] w fun e w' => ∃ v, e = .returned (.tuple #[.agg v.cells, .bool true]) ∧ SideOk w.heap.size w' v ∧ Below w.heap.size w w' ∧ v.W = [] ∧ v.r.now ≤ 8192 ∧ v.s = newK 1 1 2 64 2) := made_yes w 1 1 2 64 (by decide) (by decide) (by decide) (by decide)
  go_enter Try.func9, Try.ntmps9
  go_wp2_with fail
  refine Calls.mono Q1.out ?_
  rintro e w1 ⟨v, rfl, ok1, hb1, hW, hnw, hvs⟩
  obtain ⟨S0, hS0⟩ : ∃ S0, S0 = w1.heap.size := ⟨_, rfl⟩
  have hz1 : (w1.alloc (.cells #[.pointer none, .int .i64 0, .int .i64 0, .int .i64 0, .slice none 0 0, .int .i64 0, .slice none 0 0] 29)).heap[w1.heap.size]? = some (.cells zS 29 (0, 0)) := heap_alloc_new _ _
  clear Q1
  go_wp2_with (first | (refine wpList_store_sd (.tmp 1) (.tmp 7) rfl rfl w1.heap.size zS rfl v rfl rfl hz1 rfl ?_))
  intro w2 hbox2 k2
  have h1a : Below w1.heap.size w1 (w1.alloc (.cells #[.pointer none, .int .i64 0, .int .i64 0, .int .i64 0, .slice none 0 0, .int .i64 0, .slice none 0 0] 29)) := (Below.refl _ _).alloc (Nat.le_refl _) _
  have b12 : Below w1.heap.size w1 w2 := h1a.trans (k2.below (fun q e => by have e' : q = w1.heap.size := e; omega) h1a.size)
  have ok2 := ok1.below b12
  have HB2 : Hid (Below w.heap.size w w2) := hb1.trans (b12.mono hb1.size)
  have HOK2 : Hid _ := ok2
  have HV : Hid (v.W = [] ∧ v.r.now ≤ 8192 ∧ v.s = newK 1 1 2 64 2) := ⟨hW, hnw, hvs⟩
  have HLT : Hid (∀ q, v.all q → q < S0) := fun q hq => by rw [hS0]; exact ok1.lt q hq
  have HS0 : Hid (w.heap.size ≤ S0 ∧ S0 < w2.heap.size) := ⟨by rw [hS0]; exact hb1.size, by rw [hS0]; exact hbox2.lt⟩
  rw [← hS0] at hbox2 ⊢
  have HBX2 : Hid (SdAt w2 S0 v) := hbox2
  clear ok1 hb1 hW hnw hvs hz1 h1a k2 b12 ok2 hS0 hbox2
  have hv1 : (convert 43 43 (.slice (some ⟨w2.heap.size, 0, none⟩) 3 3)).run Try.prog (w2.alloc (.cells #[.int .u8 97, .int .u8 98, .int .u8 99] 5)) = .ok (.slice (some ⟨w2.heap.size, 0, none⟩) 3 3) (w2.alloc (.cells #[.int .u8 97, .int .u8 98, .int .u8 99] 5 (3, 4))) := Lib.run_convert_bytes_const w2 43 5 #[.int .u8 97, .int .u8 98, .int .u8 99] 3 3 Try.underlying43 Try.underlying5
  have hv3 : (convert 43 43 (.slice (some ⟨w2.heap.size + 1, 0, none⟩) 1 1)).run Try.prog ((w2.alloc (.cells #[.int .u8 97, .int .u8 98, .int .u8 99] 5 (3, 4))).alloc (.cells #[.int .u8 122] 5)) = .ok (.slice (some ⟨w2.heap.size + 1, 0, none⟩) 1 1) ((w2.alloc (.cells #[.int .u8 97, .int .u8 98, .int .u8 99] 5 (3, 4))).alloc (.cells #[.int .u8 122] 5 (1, 2))) := by
    have := Lib.run_convert_bytes_const (w2.alloc (.cells #[.int .u8 97, .int .u8 98, .int .u8 99] 5 (3, 4))) 43 5 #[.int .u8 122] 1 1 Try.underlying43 Try.underlying5
    simpa using this
  obtain ⟨W3, hW3⟩ : ∃ W3, W3 = ((w2.alloc (.cells #[.int .u8 97, .int .u8 98, .int .u8 99] 5 (3, 4))).alloc (.cells #[.int .u8 122] 5 (1, 2))).alloc (.cells zC 74) := ⟨_, rfl⟩
  have b23 : Below w2.heap.size w2 W3 := by rw [hW3]; exact (((Below.refl _ _).alloc (Nat.le_refl _) _).alloc (by simp) _).alloc (by simp; omega) _
  have hz3 : W3.heap[w2.heap.size + 1 + 1]? = some (.cells zC 74 (0, 0)) := by
    rw [hW3]
    have := heap_alloc_new ((w2.alloc (.cells #[.int .u8 97, .int .u8 98, .int .u8 99] 5 (3, 4))).alloc (.cells #[.int .u8 122] 5 (1, 2))) (.cells zC 74)
    simpa using this
  have hr1 : W3.heap[w2.heap.size]? = some (.cells #[.int .u8 97, .int .u8 98, .int .u8 99] 5 (3, 4)) := by
    rw [hW3, heap_alloc_old _ _ (by simp; omega), heap_alloc_old _ _ (by simp)]
    exact heap_alloc_new _ _
  have hr3 : W3.heap[w2.heap.size + 1]? = some (.cells #[.int .u8 122] 5 (1, 2)) := by
    rw [hW3, heap_alloc_old _ _ (by simp)]
    have := heap_alloc_new (w2.alloc (.cells #[.int .u8 97, .int .u8 98, .int .u8 99] 5 (3, 4))) (.cells #[.int .u8 122] 5 (1, 2))
    simpa using this
  rw [hW3] at hz3
  go_wp2_with (first | (refine wpList_build_any _ rfl (fC w2.heap.size (w2.heap.size + 1)) (by kernel_rfl) rfl ?_) | (refine wpList_alloc_fc (w2.heap.size + 1 + 1) (by simp) rfl rfl ?_) | (refine wpList_store_fc (.tmp 3) (.tmp 21) rfl rfl (w2.heap.size + 1 + 1) w2.heap.size (w2.heap.size + 1) rfl rfl hz3 rfl ?_))
  intro w3 hfc3 k3
  rw [← hW3] at k3
  obtain ⟨b1, hb1⟩ : ∃ b1, b1 = w2.heap.size := ⟨_, rfl⟩
  obtain ⟨b3, hb3⟩ : ∃ b3, b3 = w2.heap.size + 1 := ⟨_, rfl⟩
  obtain ⟨FB, hFB⟩ : ∃ FB, FB = w2.heap.size + 1 + 1 := ⟨_, rfl⟩
  have hk3 : Below w2.heap.size w2 w3 := b23.trans (k3.below (fun q e => by have e' : q = w2.heap.size + 1 + 1 := e; omega) b23.size)
  have T0 : Hid (Sd w w3 v S0 b1 b3 FB 0) := by
    have hs0 := HS0.out
    have r1 := (k3.block w2.heap.size (Array.getElem?_eq_some_iff.1 hr1).1 (show ¬ w2.heap.size = w2.heap.size + 1 + 1 by omega)).trans hr1
    have r3 := (k3.block (w2.heap.size + 1) (Array.getElem?_eq_some_iff.1 hr3).1 (show ¬ w2.heap.size + 1 = w2.heap.size + 1 + 1 by omega)).trans hr3
    refine ⟨HOK2.out.below hk3, HBX2.out.below hk3, by rw [hFB, hb1, hb3]; exact hfc3, ?_, ?_, HB2.out.trans (hk3.mono HB2.out.size), fun q h1 _ hq => ?_, ?_, ?_⟩
    · refine .inr ⟨b1, 0, rfl, fun i hi => ?_⟩
      rw [hb1]
      have hi3 : i < 3 := hi
      rcases (show i = 0 ∨ i = 1 ∨ i = 2 by omega) with rfl | rfl | rfl <;> simp [World.cell?, r1, toI]
    · refine .inr ⟨b3, 0, rfl, fun i hi => ?_⟩
      rw [hb3]
      have hi3 : i < 1 := hi
      rcases (show i = 0 by omega) with rfl
      simp [World.cell?, r3, toI]
    · have := HLT.out q hq; omega
    · obtain ⟨g1, g2, g3⟩ := HV.out
      exact ⟨fun _ => g3, fun e => (by cases e), fun e => (by cases e), fun _ => by rw [g1]; rfl, fun e => by omega⟩
    · have := HV.out.2.1; omega
  have HFB : Hid (S0 < b1 ∧ b1 < b3 ∧ b3 < FB ∧ FB < w3.heap.size) := by
    have hs0 := HS0.out
    have := (Array.getElem?_eq_some_iff.1 hfc3).1
    exact ⟨by omega, by omega, by omega, by omega⟩
  rw [← hFB]
  clear hv1 hv3 hz3 hr1 hr3 b23 hW3 hfc3 k3 hk3 hb1 hb3 hFB HB2 HOK2 HBX2 HV HLT
  go_wp2
  go_loopw [4, 2] (fun ix okv wr => ∃ (k : Nat) (v : SV), k ≤ 8 ∧ ix = .int .i64 k ∧ okv = .bool true ∧ Hid (Sd w wr v S0 b1 b3 FB k ∧ FB < wr.heap.size)) (fun ix _ _ => 8 - (intOf ix).toNat)
  case atStart => exact ⟨0, v, Nat.zero_le _, rfl, rfl, T0.out, HFB.out.2.2.2⟩
  case round =>
    obtain ⟨k, v, hk, rfl, rfl, ST⟩ := hrel
    clear T0
    by_cases hlt : k < 8
    · have hltI : (k : Int) < 8 := by omega
      have hk0 : (0 : Int) ≤ (k : Int) := by omega
      have hkt : ((k : Int)).toNat = k := by omega
      go_wp2
      refine MixH.start (fun x => FcAt x FB b1 b3) (by kernel_rfl) ?_
      obtain ⟨wA, hwA⟩ : ∃ wA, wA = wr.drew := ⟨_, rfl⟩
      have hS : FcAt wA FB b1 b3 := by rw [hwA]; exact ST.out.1.fc
      have SA : Hid (Sd w wA v S0 b1 b3 FB k ∧ FB < wA.heap.size) := by
        rw [hwA]
        have h := ST.out.1
        exact ⟨⟨h.ok.below (Below.refl _ _).drew, h.box, h.fc, h.s1, h.s3, h.bel.drew, h.far, h.sk, h.now⟩, ST.out.2⟩
      rw [← hwA]
      have hboxA := SA.out.1.box
      clear hwA ST
      have Q2 : Hid _ := step_any w.heap.size wA v SA.out.1.ok (by have := SA.out.1.now; omega) (by
        by_cases h2 : k ≤ 2
        · have := SA.out.1.sk.lo h2; omega
        · have := SA.out.1.sk.hi (by omega); omega) (oK k) false 0 (oN k) (oA b1 b3 k) (oF k).length (oF k) (SA.out.1.seg hlt) (oF_256 k hlt) (by have := oF_len k hlt; omega) (fun y _ hy => by
        have h1 := HFB.out
        rcases oA_blk hlt hy with e | e
        · rw [e]; exact SA.out.1.far b1 (by omega) (by omega)
        · rw [e]; exact SA.out.1.far b3 (by omega) (by omega))
      refine MixH.takes [false, true, true] 8 (by kernel_rfl) (by kernel_rfl) (by decide) (by kernel_rfl) hS (fun K hK => ?_)
      simp only [Mix.pick]
      repeat (go_big_quiet_step (fail))
      refine wpQuiet_nil (hK _ ?_)
      clear hK K
      refine MixH.take 7 3 _ (.agg (opC (oK k) false 0 (oN k) (oA b1 b3 k) (oF k).length (oF k).length)) rfl (by kernel_rfl) (by kernel_rfl) (by kernel_rfl) (by kernel_rfl) (yieldsIf_load_mid rfl 68 (.tmp 32) rfl FB (k * 5) rfl (opC (oK k) false 0 (oN k) (oA b1 b3 k) (oF k).length (oF k).length).toList _ (fun x h => FcAt.range h k hlt) Try.underlying68 rfl Try.sizeOp) hS (fun a' ha => ?_)
      simp only [Act.put, List.setIfInBounds_toArray, List.set_cons_succ, List.set_cons_zero] at ha
      subst ha
      refine MixH.one [true] 6 0 _ rfl rfl (by kernel_rfl) (by kernel_rfl) (fun K hK => ?_)
      simp only [Mix.pick]
      refine wpList_load_sd (.tmp 1) rfl S0 v rfl hboxA rfl ?_
      go_wp2
      refine ⟨rfl, hK _ _ hS ?_⟩
      clear hK K
      refine MixH.one [false, false, false, false, true] 5 4 _ rfl rfl (by kernel_rfl) (by kernel_rfl) (fun K hK => ?_)
      simp only [Mix.pick]
      go_wp2_with fail
      refine Calls.mono Q2.out ?_
      rintro e w2' ⟨v', rfl, st, eff⟩
      have hSn : FcAt w2' FB b1 b3 := (st.ch.block FB SA.out.2 (fun g => SA.out.1.far FB (by have := HFB.out; omega) (Nat.le_refl _) (.inl g))).trans hS
      have hboxB : w2'.heap[S0]? = some (.cells v.cells 29 (0, 0)) := hboxA.ch st.ch (fun g => SA.out.1.far S0 (Nat.le_refl _) (by have := HFB.out; omega) (.inl g))
      have HST : Hid _ := st
      have HEF : Hid _ := eff
      clear Q2 st eff hS hboxA
      have hS := hSn
      clear hSn
      go_wp2
      refine ⟨rfl, hK _ _ hS ?_⟩
      clear hK K
      refine MixH.takes [false, false, false, false, false, true, true, true] 2 (by kernel_rfl) (by kernel_rfl) (by decide) (by kernel_rfl) hS (fun K hK => ?_)
      simp only [Mix.pick]
      repeat (go_big_quiet_step (fail))
      refine wpQuiet_nil (hK _ ?_)
      clear hK K
      refine MixH.one [false, false, false, false, false, false, false, false, true] 1 8 _ rfl rfl (by kernel_rfl) (by kernel_rfl) (fun K hK => ?_)
      simp only [Mix.pick]
      refine wpList_store_sd (.tmp 1) (.tmp 35) rfl rfl S0 v.cells rfl v' rfl rfl hboxB rfl ?_
      intro w5 hR5 k5
      have hfb := HFB.out
      have TN : Hid (Sd w w5 v' S0 b1 b3 FB (k + 1) ∧ FB < w5.heap.size) := ⟨SA.out.1.next hlt hfb.1 hfb.2.1 hfb.2.2.1 HS0.out.1 SA.out.2 HST.out HEF.out hR5 k5, by have := HST.out.ch.size; have := k5.size; have := SA.out.2; omega⟩
      have hSn : FcAt w5 FB b1 b3 := TN.out.1.fc
      clear hS k5 hR5 hboxB hfb
      have hS := hSn
      clear hSn
      go_wp2
      refine ⟨rfl, hK _ _ hS ?_⟩
      clear hK K
      refine MixH.takes [false, false, false, false, false, false, false, false, false, true] 0 (by kernel_rfl) (by kernel_rfl) (by decide) (by kernel_rfl) hS (fun K hK => ?_)
      simp only [Mix.pick]
      repeat (go_big_quiet_step (fail))
      refine wpQuiet_nil (hK _ ?_)
      clear hK K
      refine MixH.done (by kernel_rfl) ?_
      go_wp2
      go_roundw
      case rel => exact ⟨k + 1, v', by omega, by go_num, rfl, TN⟩
      case measure => simp [intOf]; omega
    · have hltI : ¬ ((k : Int) < 8) := by omega
      have hW1 := ST.out.1.sk.hi (by omega)
      have c6 := ST.out.1.box.c6
      rw [hW1] at c6
      have HBE : Hid _ := ST.out.1.bel
      clear hlt ST hW1
      go_wp2
      go_ret
      exact ⟨rfl, HBE.out⟩
end Go.Proofs.Ythknkfggpdhdbaa
