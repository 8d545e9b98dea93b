/-
  R17a: lemmas of the proof of FlowPlays, and walks through the functions that it calls.
-/
import Derived.Test.YtclpeepnngegaaaGreatDoorP00
import Derived.Test.YtclpeepnngegaaaGreatDoorP11
import Derived.Test.YtclpeepnngegaaaGreatDoorP23
namespace Go.Proofs.YtclpeepnngegaaaGreatDoor
open Go.RowKit Go.Maps
def rtC (c : CF) : Array Value := #[.int .i64 c.mx, .int .i64 c.oV, .int .u8 (c.o 0 : Nat), .int .u8 (c.o 1 : Nat), .int .u8 (c.o 2 : Nat), .int .u8 (c.o 3 : Nat), .int .u8 (c.o 4 : Nat), .int .u8 (c.o 5 : Nat), .int .u8 (c.o 6 : Nat), .int .u8 (c.o 7 : Nat), .int .u8 (c.o 8 : Nat), .int .u8 (c.o 9 : Nat), .int .u8 (c.o 10 : Nat), .int .u8 (c.o 11 : Nat), .int .u8 (c.o 12 : Nat), .int .u8 (c.o 13 : Nat), .int .u8 (c.o 14 : Nat), .int .u8 (c.o 15 : Nat), .int .i64 c.lo, .int .i64 c.hi, .int .i64 c.sy, .int .i64 c.tc, .int .i64 c.fi, .int .i64 c.ud, .int .i64 c.ic, .slice none 0 0]
theorem Tryz.size_rtb : (Tryz.prog.info? 36).map (·.size) = some 26 := by kernel_rfl
def RtbAt (w : World) (O : Nat) (cv : CF) : Prop := w.heap[O]? = some (.cells (rtC cv) 36 (0, 0))
section
variable {w : World} {O : Nat} {cv : CF} (k : RtbAt w O cv)
include k
theorem RtbAt.lt : O < w.heap.size := (Array.getElem?_eq_some_iff.1 k).1
theorem RtbAt.below {w' : World} (c : Below w.heap.size w w') : RtbAt w' O cv := (c.block O k.lt).trans k
end
theorem rtb_new (w : World) (cv : CF) : RtbAt (w.alloc (.cells (rtC cv) 36)) w.heap.size cv := heap_alloc_new _ _
theorem wpList_store_rtb {ops : Array Oper} {rest : List Oper} {o : Oper} {a : Act} {w : World} {Q : Exit → Act → World → Prop} (x y : Operand) (ho : o.op = .store 36 x y) (hd : o.dst = none) (O : Nat) (cv : CF) (cv' : CF) (hx : a.eval x = .pointer (some ⟨O, 0, none⟩)) (hy : a.eval y = .agg (rtC cv')) (hb : RtbAt w O cv)
 (hw : Region.wanted o (yielded ops a.tmps) = true) (hh : ∀ w', RtbAt w' O cv' → Ch (fun q => q = O) w w' → wpList Tryz.prog ops Q rest a w') : wpList Tryz.prog ops Q (o :: rest) a w := by
 refine wpList_step fun K hK => ?_
 rw [if_pos hw]
 refine wp_store_row 36 x y ho O (rtC cv') hx hy _ (rtC cv) hb Tryz.size_rtb rfl (by simp [rtC, Value.oneCell']) (hK _ _ ?_)
 rw [hd]
 refine hh _ (setRow_heap w O _ _ _ _ hb) ⟨rfl, rfl, rfl, ?_, ?_⟩
 · simp [World.setRow]
 · intro k hk hne
   simp only [World.setRow]
   rw [Array.getElem?_modify, if_neg (fun e => hne e.symm)]
theorem wpList_alloc_rtb {ops : Array Oper} {rest : List Oper} {o : Oper} {a : Act} {w : World} {Q : Exit → Act → World → Prop} (ho : o.op = .alloc 36) (hw : Region.wanted o (yielded ops a.tmps) = true)
 (h : wpList Tryz.prog ops Q rest (a.put o.dst (.pointer (some ⟨w.heap.size, 0, none⟩))) (w.alloc (.cells (rtC cz) 36))) : wpList Tryz.prog ops Q (o :: rest) a w := by
 refine wpList_step fun K hK => ?_
 rw [if_pos hw]
 have hrun : (execOp a.eval o).run Tryz.prog w = .ok (.value (.pointer (some ⟨w.heap.size, 0, none⟩))) (w.alloc (.cells (rtC cz) 36)) := by
  obtain ⟨dst, op, type, pos, after, guard⟩ := o
  simp only at ho
  subst ho
  simp only [execOp]
  go_simp
  rfl
 unfold Oper.wp
 rw [hrun]
 exact hK _ _ h
theorem run_rtb1 (c : CF) (w : World) : (Instr.build 36 #[(0, .agg (cfC c))]).run Tryz.prog w = .ok (.agg (rtC c)) w := by kernel_rfl
theorem wpList_rtb1 {ops : Array Oper} {rest : List Oper} {o : Oper} {a_ : Act} {w : World} {Q : Exit → Act → World → Prop} (y0 : Operand) (ho : o.op = .build 36 #[(0, y0)]) (c : CF) (h0 : a_.eval y0 = .agg (cfC c)) (hw : Region.wanted o (yielded ops a_.tmps) = true)
 (h : wpList Tryz.prog ops Q rest (a_.put o.dst (.agg (rtC c))) w) : wpList Tryz.prog ops Q (o :: rest) a_ w := by
 refine wpList_step fun K hK => ?_
 rw [if_pos hw]
 have hrun : (execOp a_.eval o).run Tryz.prog w = .ok (.value (.agg (rtC c))) w := by
  obtain ⟨dst, op, type, pos, after, guard⟩ := o
  simp only at ho
  subst ho
  simp only [execOp, Sem.run_bind, List.map_toArray, List.map_cons, List.map_nil, h0, run_rtb1 c w, Result.andThen_ok]
  rfl
 unfold Oper.wp
 rw [hrun]
 exact hK _ _ h
theorem results_rt2 {fn : Func} {p u : Tmp} (h : fn.results = #[.cell p 36, .tmp u]) (tmps : Array Value) (w : World) (O : Nat) (c : CF) (hp : tmps.getD p undef = .pointer (some ⟨O, 0, none⟩)) (hb : RtbAt w O c) :
 (results fn tmps).run Tryz.prog w = .ok (.tuple #[.agg (rtC c), tmps.getD u undef]) w := by
 have hp' : tmps[p]?.getD undef = .pointer (some ⟨O, 0, none⟩) := by simpa using hp
 simp [results, h, hp', asAddr, run_loadVar_row w O _ 36 (rtC c) _ _ hb Tryz.underlying36 rfl Tryz.size_rtb]
set_option maxHeartbeats 1600000 in
set_option maxRecDepth 100000 in
theorem age_any (n : Int) (w : World) : Calls Tryz.prog 25 #[.int .i64 n] w fun r w' => r = .returned (.bool (inR n 1 1048576)) ∧ w = w' := by
 go_enter Tryz.func25, Tryz.ntmps25
 by_cases h1 : 1 ≤ n
 · have q1 : decide (1 ≤ n) = true := decide_eq_true h1
   go_wp2
   go_ret
   exact ⟨by simp [inR, q1], rfl⟩
 · have q1 : decide (1 ≤ n) = false := decide_eq_false h1
   go_wp2
   go_ret
   exact ⟨by simp [inR, q1], rfl⟩
def cfR (c : CF) : Bool := (!decide (c.mx < 1) && !decide (4096 < c.mx) && c.oV == 4 && (clR c.oV c.o == 7 || clR c.oV c.o == 4) && !decide (c.lo < 1) && !decide (c.hi < c.lo) && !decide (65535 < c.hi)) && (inR c.sy 1 1048576 && inR c.tc 1 1048576 && inR c.fi 1 1048576 && inR c.ud 1 1048576 && inR c.ic 1 1048576)
def nwE (c : CF) : Nat := if cfR c then 0 else 177
set_option maxHeartbeats 1600000 in
set_option maxRecDepth 100000 in
theorem newR_any (c : CF) (w : World) (ho : ∀ i, i < 16 → c.o i < 256) : Calls Tryz.prog 11 #[.agg (cfC c)] w fun r w' => r = .returned (.tuple #[.agg (rtC (if cfR c then c else cz)), .int .i64 (nwE c : Nat)]) ∧ Below w.heap.size w w' := by
 obtain ⟨W, B, HSZX, HOX, HLX, HWX, hb⟩ := zBx w (cfC c) 26
 have HBX : Hid (CfgAt W B c) := hb
 obtain ⟨CX, hC⟩ : ∃ C, C = cfC c := ⟨_, rfl⟩
 rw [← hC] at HWX ⊢
 clear hb hC
 obtain ⟨Y, O, -, HOY, HLY, HEY, hb⟩ := zBx W (rtC cz) 36
 have HNY : Hid (RtbAt Y O cz) := hb
 clear hb
 have HO16 : Hid (∀ i, i < 16 → c.o i < 256) := ho
 obtain ⟨cc, hcc⟩ : ∃ cc, (if cfR c = true then c else cz) = cc := ⟨_, rfl⟩
 have HCC : Hid ((if cfR c = true then c else cz) = cc) := hcc
 obtain ⟨nn, hnn⟩ : ∃ nn, nwE c = nn := ⟨_, rfl⟩
 have HNN : Hid (nwE c = nn) := hnn
 rw [hcc, hnn]
 clear ho hcc hnn
 have H0 : Hid (CfgAt Y B c ∧ RtbAt Y O cz ∧ Below w.heap.size w Y ∧ B < O) := ⟨HBX.out.below HLY.out, HNY.out, bthen HLX.out HLY.out, by have h1 := HOY.out; have h2 := HSZX.out; have h3 := HOX.out; omega⟩
 go_enter Tryz.func11, Tryz.ntmps11
 go_wp2_with (first | (rw [HOX.out, HWX.out]) | (refine wpList_alloc_rtb rfl rfl ?_; rw [HEY.out, HOY.out]) | (refine wpList_mid_ipr (.tmp 5) rfl B 1 c.oV c.o rfl H0.out.1.out rfl ?_))
 refine (classR_any c.oV c.o Y HO16.out).mono ?_
 rintro e1 w1 ⟨rfl, b1⟩
 obtain ⟨k, hk⟩ : ∃ k, clR c.oV c.o = k := ⟨_, rfl⟩
 have HK : Hid (clR c.oV c.o = k) := hk
 rw [hk]
 have H1 : Hid (CfgAt w1 B c ∧ RtbAt w1 O cz ∧ Below w.heap.size w w1 ∧ B < O) := ⟨H0.out.1.below b1, H0.out.2.1.below b1, bthen H0.out.2.2.1 b1, H0.out.2.2.2⟩
 clear b1 hk H0
 have c0 : w1.cell? ⟨B, 0, none⟩ = some (.int .i64 c.mx) := H1.out.1.cell 0
 have c1 : w1.cell? ⟨B, 1, none⟩ = some (.int .i64 c.oV) := H1.out.1.cell 1
 have c18 : w1.cell? ⟨B, 18, none⟩ = some (.int .i64 c.lo) := H1.out.1.cell 18
 have c19 : w1.cell? ⟨B, 19, none⟩ = some (.int .i64 c.hi) := H1.out.1.cell 19
 have c20 : w1.cell? ⟨B, 20, none⟩ = some (.int .i64 c.sy) := H1.out.1.cell 20
 have c21 : w1.cell? ⟨B, 21, none⟩ = some (.int .i64 c.tc) := H1.out.1.cell 21
 have c22 : w1.cell? ⟨B, 22, none⟩ = some (.int .i64 c.fi) := H1.out.1.cell 22
 have c23 : w1.cell? ⟨B, 23, none⟩ = some (.int .i64 c.ud) := H1.out.1.cell 23
 have c24 : w1.cell? ⟨B, 24, none⟩ = some (.int .i64 c.ic) := H1.out.1.cell 24
 by_cases hmx1 : c.mx < 1
 · have dmx1 : decide (c.mx < 1) = true := decide_eq_true hmx1
   have HR : Hid (cfR c = false) := by show _ = _; unfold cfR; rw [dmx1]; simp
   clear hmx1
   go_wp2_with (first | (refine wpList_store_rtb (.tmp 2) (.tmp 47) rfl rfl O cz cz rfl rfl H1.out.2.1 rfl ?_))
   intro w2 h2 k2
   have H2 : Hid (RtbAt w2 O cz ∧ Below w.heap.size w w2) := ⟨h2, H1.out.2.2.1.trans (k2.below (fun q hq => by have h1 := H1.out.2.2.2; have h3 := HOX.out; omega) H1.out.2.2.1.size)⟩
   clear h2 k2
   go_wp2_with fail
   refine bodyPost_ret (results_rt2 rfl _ _ O _ rfl H2.out.1) rfl ?_
   exact ⟨by rw [← HCC.out, ← HNN.out]; unfold nwE; rw [HR.out]; rfl, H2.out.2⟩
 · have dmx1 : decide (c.mx < 1) = false := decide_eq_false hmx1
   clear hmx1
   by_cases hmx2 : 4096 < c.mx
   · have dmx2 : decide (4096 < c.mx) = true := decide_eq_true hmx2
     have HR : Hid (cfR c = false) := by show _ = _; unfold cfR; rw [dmx2]; simp
     clear hmx2
     go_wp2_with (first | (refine wpList_store_rtb (.tmp 2) (.tmp 47) rfl rfl O cz cz rfl rfl H1.out.2.1 rfl ?_))
     intro w2 h2 k2
     have H2 : Hid (RtbAt w2 O cz ∧ Below w.heap.size w w2) := ⟨h2, H1.out.2.2.1.trans (k2.below (fun q hq => by have h1 := H1.out.2.2.2; have h3 := HOX.out; omega) H1.out.2.2.1.size)⟩
     clear h2 k2
     go_wp2_with fail
     refine bodyPost_ret (results_rt2 rfl _ _ O _ rfl H2.out.1) rfl ?_
     exact ⟨by rw [← HCC.out, ← HNN.out]; unfold nwE; rw [HR.out]; rfl, H2.out.2⟩
   · have dmx2 : decide (4096 < c.mx) = false := decide_eq_false hmx2
     clear hmx2
     by_cases hov : c.oV = 4
     rotate_left
     · have dov : (c.oV == 4) = false := by simp [hov]
       have dow : (c.oV != 4) = true := by simp [hov]
       have HR : Hid (cfR c = false) := by show _ = _; unfold cfR; rw [dov]; simp
       clear hov
       go_wp2_with (first | (refine wpList_store_rtb (.tmp 2) (.tmp 47) rfl rfl O cz cz rfl rfl H1.out.2.1 rfl ?_))
       intro w2 h2 k2
       have H2 : Hid (RtbAt w2 O cz ∧ Below w.heap.size w w2) := ⟨h2, H1.out.2.2.1.trans (k2.below (fun q hq => by have h1 := H1.out.2.2.2; have h3 := HOX.out; omega) H1.out.2.2.1.size)⟩
       clear h2 k2
       go_wp2_with fail
       refine bodyPost_ret (results_rt2 rfl _ _ O _ rfl H2.out.1) rfl ?_
       exact ⟨by rw [← HCC.out, ← HNN.out]; unfold nwE; rw [HR.out]; rfl, H2.out.2⟩
     have dov : (c.oV == 4) = true := by simp [hov]
     have dow : (c.oV != 4) = false := by simp [hov]
     clear hov
     by_cases hk7 : k = 7
     · have k1 : ((k : Int) == 7) = true := by simp [hk7]
       have k2 : ((k : Int) != 7) = false := by simp [hk7]
       have HKK : Hid ((k == 7 || k == 4) = true) := by show _ = _; simp [hk7]
       clear hk7
       by_cases hlo1 : c.lo < 1
       · have dlo1 : decide (c.lo < 1) = true := decide_eq_true hlo1
         have HR : Hid (cfR c = false) := by show _ = _; unfold cfR; rw [dlo1]; simp
         clear hlo1
         go_wp2_with (first | (refine wpList_store_rtb (.tmp 2) (.tmp 47) rfl rfl O cz cz rfl rfl H1.out.2.1 rfl ?_))
         intro w2 h2 k2
         have H2 : Hid (RtbAt w2 O cz ∧ Below w.heap.size w w2) := ⟨h2, H1.out.2.2.1.trans (k2.below (fun q hq => by have h1 := H1.out.2.2.2; have h3 := HOX.out; omega) H1.out.2.2.1.size)⟩
         clear h2 k2
         go_wp2_with fail
         refine bodyPost_ret (results_rt2 rfl _ _ O _ rfl H2.out.1) rfl ?_
         exact ⟨by rw [← HCC.out, ← HNN.out]; unfold nwE; rw [HR.out]; rfl, H2.out.2⟩
       · have dlo1 : decide (c.lo < 1) = false := decide_eq_false hlo1
         clear hlo1
         by_cases hlh : c.hi < c.lo
         · have dlh : decide (c.hi < c.lo) = true := decide_eq_true hlh
           have HR : Hid (cfR c = false) := by show _ = _; unfold cfR; rw [dlh]; simp
           clear hlh
           go_wp2_with (first | (refine wpList_store_rtb (.tmp 2) (.tmp 47) rfl rfl O cz cz rfl rfl H1.out.2.1 rfl ?_))
           intro w2 h2 k2
           have H2 : Hid (RtbAt w2 O cz ∧ Below w.heap.size w w2) := ⟨h2, H1.out.2.2.1.trans (k2.below (fun q hq => by have h1 := H1.out.2.2.2; have h3 := HOX.out; omega) H1.out.2.2.1.size)⟩
           clear h2 k2
           go_wp2_with fail
           refine bodyPost_ret (results_rt2 rfl _ _ O _ rfl H2.out.1) rfl ?_
           exact ⟨by rw [← HCC.out, ← HNN.out]; unfold nwE; rw [HR.out]; rfl, H2.out.2⟩
         · have dlh : decide (c.hi < c.lo) = false := decide_eq_false hlh
           clear hlh
           by_cases hh6 : 65535 < c.hi
           · have dh6 : decide (65535 < c.hi) = true := decide_eq_true hh6
             have HR : Hid (cfR c = false) := by show _ = _; unfold cfR; rw [dh6]; simp
             clear hh6
             go_wp2_with (first | (refine wpList_store_rtb (.tmp 2) (.tmp 47) rfl rfl O cz cz rfl rfl H1.out.2.1 rfl ?_))
             intro w2 h2 k2
             have H2 : Hid (RtbAt w2 O cz ∧ Below w.heap.size w w2) := ⟨h2, H1.out.2.2.1.trans (k2.below (fun q hq => by have h1 := H1.out.2.2.2; have h3 := HOX.out; omega) H1.out.2.2.1.size)⟩
             clear h2 k2
             go_wp2_with fail
             refine bodyPost_ret (results_rt2 rfl _ _ O _ rfl H2.out.1) rfl ?_
             exact ⟨by rw [← HCC.out, ← HNN.out]; unfold nwE; rw [HR.out]; rfl, H2.out.2⟩
           · have dh6 : decide (65535 < c.hi) = false := decide_eq_false hh6
             clear hh6
             obtain ⟨gsy, hgsy⟩ : ∃ b, inR c.sy 1 1048576 = b := ⟨_, rfl⟩
             have HGsy : Hid (inR c.sy 1 1048576 = gsy) := hgsy
             clear hgsy
             go_wp2_with fail
             refine (age_any c.sy w1).mono ?_
             rintro e1 wz ⟨rfl, rfl⟩
             rw [HGsy.out]
             cases gsy with
             | false =>
              have HR : Hid (cfR c = false) := by show _ = _; unfold cfR; rw [HGsy.out]; simp
              go_wp2_with (first | (refine wpList_store_rtb (.tmp 2) (.tmp 76) rfl rfl O cz cz rfl rfl H1.out.2.1 rfl ?_))
              intro w2 h2 k2
              have H2 : Hid (RtbAt w2 O cz ∧ Below w.heap.size w w2) := ⟨h2, H1.out.2.2.1.trans (k2.below (fun q hq => by have h1 := H1.out.2.2.2; have h3 := HOX.out; omega) H1.out.2.2.1.size)⟩
              clear h2 k2
              go_wp2_with fail
              refine bodyPost_ret (results_rt2 rfl _ _ O _ rfl H2.out.1) rfl ?_
              exact ⟨by rw [← HCC.out, ← HNN.out]; unfold nwE; rw [HR.out]; rfl, H2.out.2⟩
             | true =>
              obtain ⟨gtc, hgtc⟩ : ∃ b, inR c.tc 1 1048576 = b := ⟨_, rfl⟩
              have HGtc : Hid (inR c.tc 1 1048576 = gtc) := hgtc
              clear hgtc
              go_wp2_with fail
              refine (age_any c.tc w1).mono ?_
              rintro e1 wz ⟨rfl, rfl⟩
              rw [HGtc.out]
              cases gtc with
              | false =>
               have HR : Hid (cfR c = false) := by show _ = _; unfold cfR; rw [HGtc.out]; simp
               go_wp2_with (first | (refine wpList_store_rtb (.tmp 2) (.tmp 76) rfl rfl O cz cz rfl rfl H1.out.2.1 rfl ?_))
               intro w2 h2 k2
               have H2 : Hid (RtbAt w2 O cz ∧ Below w.heap.size w w2) := ⟨h2, H1.out.2.2.1.trans (k2.below (fun q hq => by have h1 := H1.out.2.2.2; have h3 := HOX.out; omega) H1.out.2.2.1.size)⟩
               clear h2 k2
               go_wp2_with fail
               refine bodyPost_ret (results_rt2 rfl _ _ O _ rfl H2.out.1) rfl ?_
               exact ⟨by rw [← HCC.out, ← HNN.out]; unfold nwE; rw [HR.out]; rfl, H2.out.2⟩
              | true =>
               obtain ⟨gfi, hgfi⟩ : ∃ b, inR c.fi 1 1048576 = b := ⟨_, rfl⟩
               have HGfi : Hid (inR c.fi 1 1048576 = gfi) := hgfi
               clear hgfi
               go_wp2_with fail
               refine (age_any c.fi w1).mono ?_
               rintro e1 wz ⟨rfl, rfl⟩
               rw [HGfi.out]
               cases gfi with
               | false =>
                have HR : Hid (cfR c = false) := by show _ = _; unfold cfR; rw [HGfi.out]; simp
                go_wp2_with (first | (refine wpList_store_rtb (.tmp 2) (.tmp 76) rfl rfl O cz cz rfl rfl H1.out.2.1 rfl ?_))
                intro w2 h2 k2
                have H2 : Hid (RtbAt w2 O cz ∧ Below w.heap.size w w2) := ⟨h2, H1.out.2.2.1.trans (k2.below (fun q hq => by have h1 := H1.out.2.2.2; have h3 := HOX.out; omega) H1.out.2.2.1.size)⟩
                clear h2 k2
                go_wp2_with fail
                refine bodyPost_ret (results_rt2 rfl _ _ O _ rfl H2.out.1) rfl ?_
                exact ⟨by rw [← HCC.out, ← HNN.out]; unfold nwE; rw [HR.out]; rfl, H2.out.2⟩
               | true =>
                obtain ⟨gud, hgud⟩ : ∃ b, inR c.ud 1 1048576 = b := ⟨_, rfl⟩
                have HGud : Hid (inR c.ud 1 1048576 = gud) := hgud
                clear hgud
                go_wp2_with fail
                refine (age_any c.ud w1).mono ?_
                rintro e1 wz ⟨rfl, rfl⟩
                rw [HGud.out]
                cases gud with
                | false =>
                 have HR : Hid (cfR c = false) := by show _ = _; unfold cfR; rw [HGud.out]; simp
                 go_wp2_with (first | (refine wpList_store_rtb (.tmp 2) (.tmp 76) rfl rfl O cz cz rfl rfl H1.out.2.1 rfl ?_))
                 intro w2 h2 k2
                 have H2 : Hid (RtbAt w2 O cz ∧ Below w.heap.size w w2) := ⟨h2, H1.out.2.2.1.trans (k2.below (fun q hq => by have h1 := H1.out.2.2.2; have h3 := HOX.out; omega) H1.out.2.2.1.size)⟩
                 clear h2 k2
                 go_wp2_with fail
                 refine bodyPost_ret (results_rt2 rfl _ _ O _ rfl H2.out.1) rfl ?_
                 exact ⟨by rw [← HCC.out, ← HNN.out]; unfold nwE; rw [HR.out]; rfl, H2.out.2⟩
                | true =>
                 obtain ⟨gic, hgic⟩ : ∃ b, inR c.ic 1 1048576 = b := ⟨_, rfl⟩
                 have HGic : Hid (inR c.ic 1 1048576 = gic) := hgic
                 clear hgic
                 go_wp2_with fail
                 refine (age_any c.ic w1).mono ?_
                 rintro e1 wz ⟨rfl, rfl⟩
                 rw [HGic.out]
                 cases gic with
                 | false =>
                  have HR : Hid (cfR c = false) := by show _ = _; unfold cfR; rw [HGic.out]; simp
                  go_wp2_with (first | (refine wpList_store_rtb (.tmp 2) (.tmp 76) rfl rfl O cz cz rfl rfl H1.out.2.1 rfl ?_))
                  intro w2 h2 k2
                  have H2 : Hid (RtbAt w2 O cz ∧ Below w.heap.size w w2) := ⟨h2, H1.out.2.2.1.trans (k2.below (fun q hq => by have h1 := H1.out.2.2.2; have h3 := HOX.out; omega) H1.out.2.2.1.size)⟩
                  clear h2 k2
                  go_wp2_with fail
                  refine bodyPost_ret (results_rt2 rfl _ _ O _ rfl H2.out.1) rfl ?_
                  exact ⟨by rw [← HCC.out, ← HNN.out]; unfold nwE; rw [HR.out]; rfl, H2.out.2⟩
                 | true =>
                  have HR : Hid (cfR c = true) := by show _ = _; unfold cfR; rw [dmx1, dmx2, dov, HK.out, HKK.out, dlo1, dlh, dh6, HGsy.out, HGtc.out, HGfi.out, HGud.out, HGic.out]; rfl
                  go_wp2_with (first | (refine wpList_load_cfg (.tmp 1) rfl B c rfl H1.out.1 rfl ?_) | (refine wpList_rtb1 (.tmp 77) rfl c rfl rfl ?_) | (refine wpList_store_rtb (.tmp 2) (.tmp 78) rfl rfl O cz c rfl rfl H1.out.2.1 rfl ?_))
                  intro w2 h2 k2
                  have H2 : Hid (RtbAt w2 O c ∧ Below w.heap.size w w2) := ⟨h2, H1.out.2.2.1.trans (k2.below (fun q hq => by have h1 := H1.out.2.2.2; have h3 := HOX.out; omega) H1.out.2.2.1.size)⟩
                  clear h2 k2
                  go_wp2_with fail
                  refine bodyPost_ret (results_rt2 rfl _ _ O _ rfl H2.out.1) rfl ?_
                  exact ⟨by rw [← HCC.out, ← HNN.out]; unfold nwE; rw [HR.out]; rfl, H2.out.2⟩
     · have k1 : ((k : Int) == 7) = false := by simp; omega
       have k2 : ((k : Int) != 7) = true := by simp; omega
       by_cases hk4 : k = 4
       · have k3 : ((k : Int) == 4) = true := by simp [hk4]
         have k4 : ((k : Int) != 4) = false := by simp [hk4]
         have HKK : Hid ((k == 7 || k == 4) = true) := by show _ = _; simp [hk4]
         clear hk7 hk4
         by_cases hlo1 : c.lo < 1
         · have dlo1 : decide (c.lo < 1) = true := decide_eq_true hlo1
           have HR : Hid (cfR c = false) := by show _ = _; unfold cfR; rw [dlo1]; simp
           clear hlo1
           go_wp2_with (first | (refine wpList_store_rtb (.tmp 2) (.tmp 47) rfl rfl O cz cz rfl rfl H1.out.2.1 rfl ?_))
           intro w2 h2 k2
           have H2 : Hid (RtbAt w2 O cz ∧ Below w.heap.size w w2) := ⟨h2, H1.out.2.2.1.trans (k2.below (fun q hq => by have h1 := H1.out.2.2.2; have h3 := HOX.out; omega) H1.out.2.2.1.size)⟩
           clear h2 k2
           go_wp2_with fail
           refine bodyPost_ret (results_rt2 rfl _ _ O _ rfl H2.out.1) rfl ?_
           exact ⟨by rw [← HCC.out, ← HNN.out]; unfold nwE; rw [HR.out]; rfl, H2.out.2⟩
         · have dlo1 : decide (c.lo < 1) = false := decide_eq_false hlo1
           clear hlo1
           by_cases hlh : c.hi < c.lo
           · have dlh : decide (c.hi < c.lo) = true := decide_eq_true hlh
             have HR : Hid (cfR c = false) := by show _ = _; unfold cfR; rw [dlh]; simp
             clear hlh
             go_wp2_with (first | (refine wpList_store_rtb (.tmp 2) (.tmp 47) rfl rfl O cz cz rfl rfl H1.out.2.1 rfl ?_))
             intro w2 h2 k2
             have H2 : Hid (RtbAt w2 O cz ∧ Below w.heap.size w w2) := ⟨h2, H1.out.2.2.1.trans (k2.below (fun q hq => by have h1 := H1.out.2.2.2; have h3 := HOX.out; omega) H1.out.2.2.1.size)⟩
             clear h2 k2
             go_wp2_with fail
             refine bodyPost_ret (results_rt2 rfl _ _ O _ rfl H2.out.1) rfl ?_
             exact ⟨by rw [← HCC.out, ← HNN.out]; unfold nwE; rw [HR.out]; rfl, H2.out.2⟩
           · have dlh : decide (c.hi < c.lo) = false := decide_eq_false hlh
             clear hlh
             by_cases hh6 : 65535 < c.hi
             · have dh6 : decide (65535 < c.hi) = true := decide_eq_true hh6
               have HR : Hid (cfR c = false) := by show _ = _; unfold cfR; rw [dh6]; simp
               clear hh6
               go_wp2_with (first | (refine wpList_store_rtb (.tmp 2) (.tmp 47) rfl rfl O cz cz rfl rfl H1.out.2.1 rfl ?_))
               intro w2 h2 k2
               have H2 : Hid (RtbAt w2 O cz ∧ Below w.heap.size w w2) := ⟨h2, H1.out.2.2.1.trans (k2.below (fun q hq => by have h1 := H1.out.2.2.2; have h3 := HOX.out; omega) H1.out.2.2.1.size)⟩
               clear h2 k2
               go_wp2_with fail
               refine bodyPost_ret (results_rt2 rfl _ _ O _ rfl H2.out.1) rfl ?_
               exact ⟨by rw [← HCC.out, ← HNN.out]; unfold nwE; rw [HR.out]; rfl, H2.out.2⟩
             · have dh6 : decide (65535 < c.hi) = false := decide_eq_false hh6
               clear hh6
               obtain ⟨gsy, hgsy⟩ : ∃ b, inR c.sy 1 1048576 = b := ⟨_, rfl⟩
               have HGsy : Hid (inR c.sy 1 1048576 = gsy) := hgsy
               clear hgsy
               go_wp2_with fail
               refine (age_any c.sy w1).mono ?_
               rintro e1 wz ⟨rfl, rfl⟩
               rw [HGsy.out]
               cases gsy with
               | false =>
                have HR : Hid (cfR c = false) := by show _ = _; unfold cfR; rw [HGsy.out]; simp
                go_wp2_with (first | (refine wpList_store_rtb (.tmp 2) (.tmp 76) rfl rfl O cz cz rfl rfl H1.out.2.1 rfl ?_))
                intro w2 h2 k2
                have H2 : Hid (RtbAt w2 O cz ∧ Below w.heap.size w w2) := ⟨h2, H1.out.2.2.1.trans (k2.below (fun q hq => by have h1 := H1.out.2.2.2; have h3 := HOX.out; omega) H1.out.2.2.1.size)⟩
                clear h2 k2
                go_wp2_with fail
                refine bodyPost_ret (results_rt2 rfl _ _ O _ rfl H2.out.1) rfl ?_
                exact ⟨by rw [← HCC.out, ← HNN.out]; unfold nwE; rw [HR.out]; rfl, H2.out.2⟩
               | true =>
                obtain ⟨gtc, hgtc⟩ : ∃ b, inR c.tc 1 1048576 = b := ⟨_, rfl⟩
                have HGtc : Hid (inR c.tc 1 1048576 = gtc) := hgtc
                clear hgtc
                go_wp2_with fail
                refine (age_any c.tc w1).mono ?_
                rintro e1 wz ⟨rfl, rfl⟩
                rw [HGtc.out]
                cases gtc with
                | false =>
                 have HR : Hid (cfR c = false) := by show _ = _; unfold cfR; rw [HGtc.out]; simp
                 go_wp2_with (first | (refine wpList_store_rtb (.tmp 2) (.tmp 76) rfl rfl O cz cz rfl rfl H1.out.2.1 rfl ?_))
                 intro w2 h2 k2
                 have H2 : Hid (RtbAt w2 O cz ∧ Below w.heap.size w w2) := ⟨h2, H1.out.2.2.1.trans (k2.below (fun q hq => by have h1 := H1.out.2.2.2; have h3 := HOX.out; omega) H1.out.2.2.1.size)⟩
                 clear h2 k2
                 go_wp2_with fail
                 refine bodyPost_ret (results_rt2 rfl _ _ O _ rfl H2.out.1) rfl ?_
                 exact ⟨by rw [← HCC.out, ← HNN.out]; unfold nwE; rw [HR.out]; rfl, H2.out.2⟩
                | true =>
                 obtain ⟨gfi, hgfi⟩ : ∃ b, inR c.fi 1 1048576 = b := ⟨_, rfl⟩
                 have HGfi : Hid (inR c.fi 1 1048576 = gfi) := hgfi
                 clear hgfi
                 go_wp2_with fail
                 refine (age_any c.fi w1).mono ?_
                 rintro e1 wz ⟨rfl, rfl⟩
                 rw [HGfi.out]
                 cases gfi with
                 | false =>
                  have HR : Hid (cfR c = false) := by show _ = _; unfold cfR; rw [HGfi.out]; simp
                  go_wp2_with (first | (refine wpList_store_rtb (.tmp 2) (.tmp 76) rfl rfl O cz cz rfl rfl H1.out.2.1 rfl ?_))
                  intro w2 h2 k2
                  have H2 : Hid (RtbAt w2 O cz ∧ Below w.heap.size w w2) := ⟨h2, H1.out.2.2.1.trans (k2.below (fun q hq => by have h1 := H1.out.2.2.2; have h3 := HOX.out; omega) H1.out.2.2.1.size)⟩
                  clear h2 k2
                  go_wp2_with fail
                  refine bodyPost_ret (results_rt2 rfl _ _ O _ rfl H2.out.1) rfl ?_
                  exact ⟨by rw [← HCC.out, ← HNN.out]; unfold nwE; rw [HR.out]; rfl, H2.out.2⟩
                 | true =>
                  obtain ⟨gud, hgud⟩ : ∃ b, inR c.ud 1 1048576 = b := ⟨_, rfl⟩
                  have HGud : Hid (inR c.ud 1 1048576 = gud) := hgud
                  clear hgud
                  go_wp2_with fail
                  refine (age_any c.ud w1).mono ?_
                  rintro e1 wz ⟨rfl, rfl⟩
                  rw [HGud.out]
                  cases gud with
                  | false =>
                   have HR : Hid (cfR c = false) := by show _ = _; unfold cfR; rw [HGud.out]; simp
                   go_wp2_with (first | (refine wpList_store_rtb (.tmp 2) (.tmp 76) rfl rfl O cz cz rfl rfl H1.out.2.1 rfl ?_))
                   intro w2 h2 k2
                   have H2 : Hid (RtbAt w2 O cz ∧ Below w.heap.size w w2) := ⟨h2, H1.out.2.2.1.trans (k2.below (fun q hq => by have h1 := H1.out.2.2.2; have h3 := HOX.out; omega) H1.out.2.2.1.size)⟩
                   clear h2 k2
                   go_wp2_with fail
                   refine bodyPost_ret (results_rt2 rfl _ _ O _ rfl H2.out.1) rfl ?_
                   exact ⟨by rw [← HCC.out, ← HNN.out]; unfold nwE; rw [HR.out]; rfl, H2.out.2⟩
                  | true =>
                   obtain ⟨gic, hgic⟩ : ∃ b, inR c.ic 1 1048576 = b := ⟨_, rfl⟩
                   have HGic : Hid (inR c.ic 1 1048576 = gic) := hgic
                   clear hgic
                   go_wp2_with fail
                   refine (age_any c.ic w1).mono ?_
                   rintro e1 wz ⟨rfl, rfl⟩
                   rw [HGic.out]
                   cases gic with
                   | false =>
                    have HR : Hid (cfR c = false) := by show _ = _; unfold cfR; rw [HGic.out]; simp
                    go_wp2_with (first | (refine wpList_store_rtb (.tmp 2) (.tmp 76) rfl rfl O cz cz rfl rfl H1.out.2.1 rfl ?_))
                    intro w2 h2 k2
                    have H2 : Hid (RtbAt w2 O cz ∧ Below w.heap.size w w2) := ⟨h2, H1.out.2.2.1.trans (k2.below (fun q hq => by have h1 := H1.out.2.2.2; have h3 := HOX.out; omega) H1.out.2.2.1.size)⟩
                    clear h2 k2
                    go_wp2_with fail
                    refine bodyPost_ret (results_rt2 rfl _ _ O _ rfl H2.out.1) rfl ?_
                    exact ⟨by rw [← HCC.out, ← HNN.out]; unfold nwE; rw [HR.out]; rfl, H2.out.2⟩
                   | true =>
                    have HR : Hid (cfR c = true) := by show _ = _; unfold cfR; rw [dmx1, dmx2, dov, HK.out, HKK.out, dlo1, dlh, dh6, HGsy.out, HGtc.out, HGfi.out, HGud.out, HGic.out]; rfl
                    go_wp2_with (first | (refine wpList_load_cfg (.tmp 1) rfl B c rfl H1.out.1 rfl ?_) | (refine wpList_rtb1 (.tmp 77) rfl c rfl rfl ?_) | (refine wpList_store_rtb (.tmp 2) (.tmp 78) rfl rfl O cz c rfl rfl H1.out.2.1 rfl ?_))
                    intro w2 h2 k2
                    have H2 : Hid (RtbAt w2 O c ∧ Below w.heap.size w w2) := ⟨h2, H1.out.2.2.1.trans (k2.below (fun q hq => by have h1 := H1.out.2.2.2; have h3 := HOX.out; omega) H1.out.2.2.1.size)⟩
                    clear h2 k2
                    go_wp2_with fail
                    refine bodyPost_ret (results_rt2 rfl _ _ O _ rfl H2.out.1) rfl ?_
                    exact ⟨by rw [← HCC.out, ← HNN.out]; unfold nwE; rw [HR.out]; rfl, H2.out.2⟩
       · have k3 : ((k : Int) == 4) = false := by simp; omega
         have k4 : ((k : Int) != 4) = true := by simp; omega
         have e1 : (k == 7) = false := by simp; omega
         have e2 : (k == 4) = false := by simp; omega
         have HR : Hid (cfR c = false) := by show _ = _; unfold cfR; rw [HK.out, e1, e2]; simp
         clear e1 e2 hk7 hk4
         go_wp2_with (first | (refine wpList_store_rtb (.tmp 2) (.tmp 47) rfl rfl O cz cz rfl rfl H1.out.2.1 rfl ?_))
         intro w2 h2 k2
         have H2 : Hid (RtbAt w2 O cz ∧ Below w.heap.size w w2) := ⟨h2, H1.out.2.2.1.trans (k2.below (fun q hq => by have h1 := H1.out.2.2.2; have h3 := HOX.out; omega) H1.out.2.2.1.size)⟩
         clear h2 k2
         go_wp2_with fail
         refine bodyPost_ret (results_rt2 rfl _ _ O _ rfl H2.out.1) rfl ?_
         exact ⟨by rw [← HCC.out, ← HNN.out]; unfold nwE; rw [HR.out]; rfl, H2.out.2⟩
end Go.Proofs.YtclpeepnngegaaaGreatDoor
