/-
  Layer 15: within, ipMayBe, mayBe, macMayBe, configMayBe.
-/
import Derived.Test.YtnpipngiehohgaaNgMap
namespace Go.Proofs.Ytnpipngiehohgaa
open Go.RowKit Go.Maps

theorem bthen {a b c : World} (h : Below a.heap.size a b) (k : Below b.heap.size b c) : Below a.heap.size a c := h.trans (k.mono h.size)
def inR (n lo hi : Int) : Bool := decide (lo ≤ n) && decide (n ≤ hi)
set_option maxHeartbeats 800000 in
theorem within_any (n lo hi : Int) (w : World) : Calls Try.prog 64 #[.int .i64 n, .int .i64 lo, .int .i64 hi] w fun e w' => e = .returned (.bool (inR n lo hi)) ∧ w = w' := by
  by_cases h1 : lo ≤ n
  · have q1 : decide (lo ≤ n) = true := by simpa using h1
    by_cases h2 : n ≤ hi
    · have q2 : decide (n ≤ hi) = true := by simpa using h2
      have HR : Hid (inR n lo hi = true) := by show inR n lo hi = true; unfold inR; rw [q1, q2]; rfl
      go_enter Try.func64, Try.ntmps64
      go_wp2
      go_ret
      exact ⟨by rw [HR.out]; rfl, rfl⟩
    · have q2 : decide (n ≤ hi) = false := by simpa using h2
      have HR : Hid (inR n lo hi = false) := by show inR n lo hi = false; unfold inR; rw [q2]; simp
      go_enter Try.func64, Try.ntmps64
      go_wp2
      go_ret
      exact ⟨by rw [HR.out]; rfl, rfl⟩
  · have q1 : decide (lo ≤ n) = false := by simpa using h1
    have HR : Hid (inR n lo hi = false) := by show inR n lo hi = false; unfold inR; rw [q1]; rfl
    go_enter Try.func64, Try.ntmps64
    go_wp2
    go_ret
    exact ⟨by rw [HR.out]; rfl, rfl⟩
def hd4 (x : Nat → Nat) : Nat → Nat := fun i => if i < 4 then x i else 0
def ipB (V : Int) (x : Nat → Nat) : Bool := V == 6 || (V == 4 && same16 x (hd4 x))
theorem run_buildar (x : Nat → Nat) (w : World) : (Instr.build 29 #[(0, .int .u8 (x 0 : Nat)), (1, .int .u8 (x 1 : Nat)), (2, .int .u8 (x 2 : Nat)), (3, .int .u8 (x 3 : Nat))]).run Try.prog w = .ok (.agg (arCells (hd4 x))) w := by kernel_rfl
theorem wpList_build_ar {ops : Array Oper} {rest : List Oper} {o : Oper} {a : Act} {w : World} {Q : Exit → Act → World → Prop} (y0 y1 y2 y3 : Operand) (ho : o.op = .build 29 #[(0, y0), (1, y1), (2, y2), (3, y3)]) (x : Nat → Nat) (h0 : a.eval y0 = .int .u8 (x 0 : Nat)) (h1 : a.eval y1 = .int .u8 (x 1 : Nat)) (h2 : a.eval y2 = .int .u8 (x 2 : Nat)) (h3 : a.eval y3 = .int .u8 (x 3 : Nat)) (hw : Region.wanted o (yielded ops a.tmps) = true)
    (h : wpList Try.prog ops Q rest (a.put o.dst (.agg (arCells (hd4 x)))) w) : wpList Try.prog ops Q (o :: rest) a w := by
  refine wpList_step fun K hK => ?_
  rw [if_pos hw]
  have hrun : (execOp a.eval o).run Try.prog w = .ok (.value (.agg (arCells (hd4 x)))) w := by
    obtain ⟨dst, op, type, pos, after, guard⟩ := o
    simp only at ho
    subst ho
    simp only [execOp, Sem.run_bind, List.map_toArray, List.map_cons, List.map_nil, h0, h1, h2, h3, run_buildar x w, Result.andThen_ok]
    rfl
  unfold Oper.wp
  rw [hrun]
  exact hK _ _ h
theorem Try.size_arr : (Try.prog.info? 29).map (·.size) = some 16 := by kernel_rfl
theorem IprAt.arr {w : World} {O : Nat} {V : Int} {x : Nat → Nat} (h : IprAt w O V x) : w.rangeAt O 1 (arCells x).toList := by
  intro j v hj
  rw [h.cell]
  have hl : j < 16 := (List.getElem?_eq_some_iff.1 hj).1
  have := lt20' (show j < 20 by omega)
  rcases this with rfl | rfl | rfl | rfl | rfl | rfl | rfl | rfl | rfl | rfl | rfl | rfl | rfl | rfl | rfl | rfl | rfl | rfl | rfl | rfl
  all_goals first | exact hj | omega
theorem wpList_mid_ar {ops : Array Oper} {rest : List Oper} {o : Oper} {a : Act} {w : World} {Q : Exit → Act → World → Prop} (x : Operand) (ho : o.op = .load 29 x) (O off : Nat) (f : Nat → Nat) (hx : a.eval x = .pointer (some ⟨O, off, none⟩)) (hb : w.rangeAt O off (arCells f).toList)
    (hw : Region.wanted o (yielded ops a.tmps) = true) (h : wpList Try.prog ops Q rest (a.put o.dst (.agg (arCells f))) w) : wpList Try.prog ops Q (o :: rest) a w := by
  refine wpList_step fun K hK => ?_
  rw [if_pos hw]
  exact wp_load_mid 29 x ho O off hx (arCells f).toList _ hb Try.underlying29 rfl Try.size_arr (hK _ _ h)
set_option maxHeartbeats 1600000 in
set_option maxRecDepth 100000 in
theorem ipMay_any (V : Int) (x : Nat → Nat) (w : World) : Calls Try.prog 65 #[.agg (ipCells V x)] w fun e w' => e = .returned (.bool (ipB V x)) ∧ Below w.heap.size w w' := by
  have hb := ipr_new w V x
  have bel : Below w.heap.size w (w.alloc (.cells (ipCells V x) 31)) := (Below.refl _ _).alloc (Nat.le_refl _) _
  obtain ⟨C, hC⟩ : ∃ C, C = ipCells V x := ⟨_, rfl⟩
  obtain ⟨W, hW⟩ : ∃ W, W = w.alloc (.cells (ipCells V x) 31) := ⟨_, rfl⟩
  rw [← hW] at hb bel
  obtain ⟨B, hB⟩ : ∃ B, B = w.heap.size := ⟨_, rfl⟩
  rw [← hB] at hb
  have HBX : Hid (IprAt W B V x) := hb
  rw [← hC] at hW ⊢
  have HB : Hid (w.heap.size = B) := hB.symm
  have HBL : Hid (Below w.heap.size w W) := bel
  have HW : Hid (w.alloc (.cells C 31) = W) := hW.symm
  have k0 : W.cell? ⟨B, 0, none⟩ = some (.int .i64 V) := HBX.out.cell 0
  clear hb hW hB hC bel
  go_enter Try.func65, Try.ntmps65
  go_upto_region 1 with fail
  rw [HB.out, HW.out]
  by_cases h6 : V = 6
  · have q6 : (V == 6) = true := by simpa using h6
    have HR : Hid (ipB V x = true) := by show ipB V x = true; unfold ipB; rw [q6]; rfl
    clear h6
    go_wp2
    go_ret
    exact ⟨by rw [HR.out]; rfl, HBL.out⟩
  · have q6 : (V == 6) = false := by simpa using h6
    by_cases h4 : V = 4
    · have q4 : (V == 4) = true := by simpa using h4
      have HR : Hid (ipB V x = same16 x (hd4 x)) := by show ipB V x = _; unfold ipB; rw [q6, q4]; simp
      have c0 : W.cell? ⟨B, 1, none⟩ = some (.int .u8 (x 0 : Nat)) := HBX.out.cell 1
      have c1 : W.cell? ⟨B, 2, none⟩ = some (.int .u8 (x 1 : Nat)) := HBX.out.cell 2
      have c2 : W.cell? ⟨B, 3, none⟩ = some (.int .u8 (x 2 : Nat)) := HBX.out.cell 3
      have c3 : W.cell? ⟨B, 4, none⟩ = some (.int .u8 (x 3 : Nat)) := HBX.out.cell 4
      obtain ⟨sb, hsb⟩ : ∃ sb, same16 x (hd4 x) = sb := ⟨_, rfl⟩
      rw [hsb] at HR
      have HSB : Hid (same16 x (hd4 x) = sb) := hsb
      clear hsb h6 h4
      go_wp2_with (first | (refine wpList_mid_ar (.tmp 11) rfl B 1 x rfl HBX.out.arr rfl ?_) | (refine wpList_build_ar (.tmp 15) (.tmp 18) (.tmp 21) (.tmp 24) rfl x rfl rfl rfl rfl rfl ?_) | (refine wpList_eql_ar (.tmp 12) (.tmp 25) rfl x (hd4 x) rfl rfl sb HSB.out rfl ?_))
      go_ret
      exact ⟨by rw [HR.out]; rfl, HBL.out⟩
    · have q4 : (V == 4) = false := by simpa using h4
      have HR : Hid (ipB V x = false) := by show ipB V x = false; unfold ipB; rw [q6, q4]; rfl
      clear h6 h4
      go_wp2
      go_ret
      exact ⟨by rw [HR.out]; rfl, HBL.out⟩
def kB (k : KV) : Bool := inR k.pt 0 7 && ipB k.V k.x
set_option maxHeartbeats 1600000 in
set_option maxRecDepth 100000 in
theorem mayBe_any (k : KV) (w : World) : Calls Try.prog 46 #[.agg (kC k)] w fun e w' => e = .returned (.bool (kB k)) ∧ Below w.heap.size w w' := by
  have hb := key_new w k
  have bel : Below w.heap.size w (w.alloc (.cells (kC k) 98)) := (Below.refl _ _).alloc (Nat.le_refl _) _
  obtain ⟨C, hC⟩ : ∃ C, C = kC k := ⟨_, rfl⟩
  obtain ⟨W, hW⟩ : ∃ W, W = w.alloc (.cells (kC k) 98) := ⟨_, rfl⟩
  rw [← hW] at hb bel
  obtain ⟨B, hB⟩ : ∃ B, B = w.heap.size := ⟨_, rfl⟩
  rw [← hB] at hb
  have HBX : Hid (KeyAt W B k) := hb
  rw [← hC] at hW ⊢
  have HB : Hid (w.heap.size = B) := hB.symm
  have HBL : Hid (Below w.heap.size w W) := bel
  have HW : Hid (w.alloc (.cells C 98) = W) := hW.symm
  have k0 : W.cell? ⟨B, 0, none⟩ = some (.int .i64 k.pt) := HBX.out.cell 0
  have QW : Hid _ := within_any k.pt 0 7 W
  have QI : Hid _ := ipMay_any k.V k.x W
  obtain ⟨b1, hb1⟩ : ∃ b, inR k.pt 0 7 = b := ⟨_, rfl⟩
  obtain ⟨b2, hb2⟩ : ∃ b, ipB k.V k.x = b := ⟨_, rfl⟩
  rw [hb1] at QW
  rw [hb2] at QI
  have HR : Hid (kB k = (b1 && b2)) := by show kB k = _; unfold kB; rw [hb1, hb2]
  clear hb hW hB hC bel hb1 hb2
  go_enter Try.func46, Try.ntmps46
  go_upto_region 1 with fail
  rw [HB.out, HW.out]
  cases b1 with
  | false =>
    go_wp2_with fail
    refine Calls.mono QW.out ?_
    rintro e w1 ⟨rfl, rfl⟩
    go_wp2_with fail
    go_ret
    exact ⟨by rw [HR.out]; rfl, HBL.out⟩
  | true =>
    go_wp2_with fail
    refine Calls.mono QW.out ?_
    rintro e w1 ⟨rfl, rfl⟩
    go_wp2_with (first | (refine wpList_mid_ipr (.tmp 7) rfl B 1 k.V k.x rfl HBX.out.ip rfl ?_))
    refine Calls.mono QI.out ?_
    rintro e w1 ⟨rfl, c1⟩
    have HE : Hid (Below w.heap.size w w1) := bthen HBL.out c1
    clear c1
    go_wp2_with fail
    go_ret
    exact ⟨by rw [HR.out]; cases b2 <;> rfl, HE.out⟩
theorem and_u8 : ∀ a, a < 256 → (bits BinOp.and IntKind.u8 ((a : Nat) : Int) 1 == 0) = (a % 2 == 0) := by decide +kernel
def mB (m : Nat → Nat) : Bool := !(same6 m mz) && (m 0 % 2 == 0)
set_option maxHeartbeats 1600000 in
set_option maxRecDepth 100000 in
theorem macMay_any (m : Nat → Nat) (w : World) (hm : ∀ i, i < 6 → m i < 256) : Calls Try.prog 50 #[.agg (macC m)] w fun e w' => e = .returned (.bool (mB m)) ∧ Below w.heap.size w w' := by
  have hb := mac_new w m
  have bel : Below w.heap.size w (w.alloc (.cells (macC m) 33)) := (Below.refl _ _).alloc (Nat.le_refl _) _
  obtain ⟨C, hC⟩ : ∃ C, C = macC m := ⟨_, rfl⟩
  obtain ⟨W, hW⟩ : ∃ W, W = w.alloc (.cells (macC m) 33) := ⟨_, rfl⟩
  rw [← hW] at hb bel
  obtain ⟨B, hB⟩ : ∃ B, B = w.heap.size := ⟨_, rfl⟩
  rw [← hB] at hb
  have HBX : Hid (MacAt W B m) := hb
  rw [← hC] at hW ⊢
  have HB : Hid (w.heap.size = B) := hB.symm
  have HBL : Hid (Below w.heap.size w W) := bel
  have HW : Hid (w.alloc (.cells C 33) = W) := hW.symm
  have k0 : W.cell? ⟨B, 0, none⟩ = some (.int .u8 (m 0 : Nat)) := HBX.out.cell 0
  have h0 := hm 0 (by omega)
  obtain ⟨b1, hb1⟩ : ∃ b, same6 m mz = b := ⟨_, rfl⟩
  have HS : Hid ((!same6 m mz) = !b1) := by show (!same6 m mz) = _; rw [hb1]
  obtain ⟨a, ha⟩ : ∃ a, m 0 = a := ⟨_, rfl⟩
  rw [ha] at k0 h0
  have HR : Hid (mB m = (!b1 && (a % 2 == 0))) := by show mB m = _; unfold mB; rw [hb1, ha]
  clear hb hW hB hC bel hb1 ha hm
  go_enter Try.func50, Try.ntmps50
  go_upto_region 1 with fail
  rw [HB.out, HW.out]
  cases b1 with
  | true =>
    go_wp2_with (first | (refine wpList_load_mac (.tmp 1) rfl B m rfl HBX.out rfl ?_) | (refine wpList_build_mac0 rfl rfl ?_) | (refine wpList_neq_mac (.tmp 3) (.tmp 4) rfl m mz rfl rfl false HS.out rfl ?_))
    go_ret
    exact ⟨by rw [HR.out]; rfl, HBL.out⟩
  | false =>
    go_wp2_with (first | (refine wpList_load_mac (.tmp 1) rfl B m rfl HBX.out rfl ?_) | (refine wpList_build_mac0 rfl rfl ?_) | (refine wpList_neq_mac (.tmp 3) (.tmp 4) rfl m mz rfl rfl true HS.out rfl ?_))
    go_ret
    refine ⟨?_, HBL.out⟩
    rw [HR.out]
    show Ending.returned (Value.bool (bits BinOp.and IntKind.u8 (a : Int) 1 == 0)) = _
    rw [and_u8 a h0]
    rfl
def cfB (c : CF) : Bool := inR c.mx 1 1024 && inR c.li 1 64 && inR c.ev 1 1048576 && inR c.tr 1 16 && inR c.fr 1 1048576
set_option maxHeartbeats 1600000 in
set_option maxRecDepth 100000 in
theorem cfMay_any (c : CF) (w : World) : Calls Try.prog 63 #[.agg (cfC c)] w fun e w' => e = .returned (.bool (cfB c)) ∧ Below w.heap.size w w' := by
  have hb := cfg_new w c
  have bel : Below w.heap.size w (w.alloc (.cells (cfC c) 23)) := (Below.refl _ _).alloc (Nat.le_refl _) _
  obtain ⟨C, hC⟩ : ∃ C, C = cfC c := ⟨_, rfl⟩
  obtain ⟨W, hW⟩ : ∃ W, W = w.alloc (.cells (cfC c) 23) := ⟨_, rfl⟩
  rw [← hW] at hb bel
  obtain ⟨B, hB⟩ : ∃ B, B = w.heap.size := ⟨_, rfl⟩
  rw [← hB] at hb
  rw [← hC] at hW ⊢
  have HB : Hid (w.heap.size = B) := hB.symm
  have HBL : Hid (Below w.heap.size w W) := bel
  have HW : Hid (w.alloc (.cells C 23) = W) := hW.symm
  have k0 : W.cell? ⟨B, 0, none⟩ = some (.int .i64 c.mx) := hb.cell 0
  obtain ⟨b0, hb0⟩ : ∃ b, inR c.mx 1 1024 = b := ⟨_, rfl⟩
  have Q0 : Hid _ := within_any c.mx 1 1024 W
  rw [hb0] at Q0
  have k1 : W.cell? ⟨B, 1, none⟩ = some (.int .i64 c.li) := hb.cell 1
  obtain ⟨b1, hb1⟩ : ∃ b, inR c.li 1 64 = b := ⟨_, rfl⟩
  have Q1 : Hid _ := within_any c.li 1 64 W
  rw [hb1] at Q1
  have k2 : W.cell? ⟨B, 2, none⟩ = some (.int .i64 c.ev) := hb.cell 2
  obtain ⟨b2, hb2⟩ : ∃ b, inR c.ev 1 1048576 = b := ⟨_, rfl⟩
  have Q2 : Hid _ := within_any c.ev 1 1048576 W
  rw [hb2] at Q2
  have k3 : W.cell? ⟨B, 3, none⟩ = some (.int .i64 c.tr) := hb.cell 3
  obtain ⟨b3, hb3⟩ : ∃ b, inR c.tr 1 16 = b := ⟨_, rfl⟩
  have Q3 : Hid _ := within_any c.tr 1 16 W
  rw [hb3] at Q3
  have k4 : W.cell? ⟨B, 4, none⟩ = some (.int .i64 c.fr) := hb.cell 4
  obtain ⟨b4, hb4⟩ : ∃ b, inR c.fr 1 1048576 = b := ⟨_, rfl⟩
  have Q4 : Hid _ := within_any c.fr 1 1048576 W
  rw [hb4] at Q4
  have HR : Hid (cfB c = (b0 && b1 && b2 && b3 && b4)) := by show cfB c = _; unfold cfB; rw [hb0, hb1, hb2, hb3, hb4]
  clear hb hW hB hC bel hb0 hb1 hb2 hb3 hb4
  go_enter Try.func63, Try.ntmps63
  go_upto_region 1 with fail
  rw [HB.out, HW.out]
  cases b0 with
  | false =>
    go_wp2_with fail
    refine Calls.mono Q0.out ?_
    rintro e w1 ⟨rfl, rfl⟩
    go_wp2_with fail
    go_ret
    exact ⟨by rw [HR.out]; rfl, HBL.out⟩
  | true =>
    go_wp2_with fail
    refine Calls.mono Q0.out ?_
    rintro e w1 ⟨rfl, rfl⟩
    cases b1 with
    | false =>
      go_wp2_with fail
      refine Calls.mono Q1.out ?_
      rintro e w1 ⟨rfl, rfl⟩
      go_wp2_with fail
      go_ret
      exact ⟨by rw [HR.out]; rfl, HBL.out⟩
    | true =>
      go_wp2_with fail
      refine Calls.mono Q1.out ?_
      rintro e w1 ⟨rfl, rfl⟩
      cases b2 with
      | false =>
        go_wp2_with fail
        refine Calls.mono Q2.out ?_
        rintro e w1 ⟨rfl, rfl⟩
        go_wp2_with fail
        go_ret
        exact ⟨by rw [HR.out]; rfl, HBL.out⟩
      | true =>
        go_wp2_with fail
        refine Calls.mono Q2.out ?_
        rintro e w1 ⟨rfl, rfl⟩
        cases b3 with
        | false =>
          go_wp2_with fail
          refine Calls.mono Q3.out ?_
          rintro e w1 ⟨rfl, rfl⟩
          go_wp2_with fail
          go_ret
          exact ⟨by rw [HR.out]; rfl, HBL.out⟩
        | true =>
          go_wp2_with fail
          refine Calls.mono Q3.out ?_
          rintro e w1 ⟨rfl, rfl⟩
          cases b4 with
          | false =>
            go_wp2_with fail
            refine Calls.mono Q4.out ?_
            rintro e w1 ⟨rfl, rfl⟩
            go_wp2_with fail
            go_ret
            exact ⟨by rw [HR.out]; rfl, HBL.out⟩
          | true =>
            go_wp2_with fail
            refine Calls.mono Q4.out ?_
            rintro e w1 ⟨rfl, rfl⟩
            go_wp2_with fail
            go_ret
            exact ⟨by rw [HR.out]; rfl, HBL.out⟩
end Go.Proofs.Ytnpipngiehohgaa
