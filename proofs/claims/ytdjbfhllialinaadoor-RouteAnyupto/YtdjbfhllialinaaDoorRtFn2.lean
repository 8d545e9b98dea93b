/-
  Layer 14: station, check, New, Len.
-/
import Derived.Test.YtdjbfhllialinaaDoorRtMap
namespace Go.Proofs.YtdjbfhllialinaaDoor
open Go.RowKit Go.Maps

def stB (U : Int) (y : Nat → Nat) (V : Int) : Bool := U == V && (clsA U y == 7 || clsA U y == 4)
def viaZ (U : Int) (y : Nat → Nat) : Bool := U == 0 && same16 y (fun _ => 0)
def chkR (r : RV) : Nat := if vpE r.p = 0 then (if r.pt < 0 ∨ 8 ≤ r.pt then 141 else if viaZ r.U r.y = false ∧ stB r.U r.y r.p.V = false then 142 else 0) else 140
theorem vz_neq {U : Int} {y : Nat → Nat} {b : Bool} (h : viaZ U y = b) : (!(U == 0 && same16 y (fun _ => 0))) = !b := by
  unfold viaZ at h
  rw [h]
theorem wpList_neq_ipb {ops : Array Oper} {rest : List Oper} {o : Oper} {a : Act} {w : World} {Q : Exit → Act → World → Prop} (X Y : Operand) (ho : o.op = .binOp .neq 25 X Y 25) (V U : Int) (x y : Nat → Nat) (hx : a.eval X = .agg (ipCells V x)) (hy : a.eval Y = .agg (ipCells U y)) (b : Bool) (hbb : (!(V == U && same16 x y)) = b) (hw : Region.wanted o (yielded ops a.tmps) = true)
    (h : wpList Tryd.prog ops Q rest (a.put o.dst (.bool b)) w) : wpList Tryd.prog ops Q (o :: rest) a w := by
  refine wpList_step fun K hK => ?_
  rw [if_pos hw]
  have hrun : (execOp a.eval o).run Tryd.prog w = .ok (.value (.bool b)) w := by
    subst hbb
    obtain ⟨dst, op, type, pos, after, guard⟩ := o
    simp only at ho
    subst ho
    simp only [execOp, Sem.run_bind, Sem.run_pure, hx, hy, run_eqGuard_agg w .neq 25 _ _ _ _ Tryd.ipGuard, Result.andThen_ok, run_neq_struct, eqIPtop]
  unfold Oper.wp
  rw [hrun]
  exact hK _ _ h
set_option maxHeartbeats 1600000 in
set_option maxRecDepth 100000 in
theorem station_any (U : Int) (y : Nat → Nat) (V : Int) (w : World) (hs : Spe8 w) (hy : ∀ i, i < 16 → y i < 256) : Calls Tryd.prog 21 #[.agg (ipCells U y), .int .i64 V] w fun e w' => e = .returned (.bool (stB U y V)) ∧ Below w.heap.size w w' := by
  have hb := ipr_new w U y
  have bel : Below w.heap.size w (w.alloc (.cells (ipCells U y) 25)) := (Below.refl _ _).alloc (Nat.le_refl _) _
  obtain ⟨C, hC⟩ : ∃ C, C = ipCells U y := ⟨_, rfl⟩
  obtain ⟨W, hW⟩ : ∃ W, W = w.alloc (.cells (ipCells U y) 25) := ⟨_, rfl⟩
  rw [← hW] at hb bel
  obtain ⟨B, hB⟩ : ∃ B, B = w.heap.size := ⟨_, rfl⟩
  rw [← hB] at hb
  have HBX : Hid (IprAt W B U y) := hb
  rw [← hC] at hW ⊢
  have HB : Hid (w.heap.size = B) := hB.symm
  have HBL : Hid (Below w.heap.size w W) := bel
  have HW : Hid (w.alloc (.cells C 25) = W) := hW.symm
  have QC : Hid _ := class_any U y W hy (hs.old bel)
  obtain ⟨cl, hcl⟩ : ∃ cl, cl = clsA U y := ⟨_, rfl⟩
  rw [← hcl] at QC
  have HCL : Hid (clsA U y = cl) := hcl.symm
  clear hb hW hB hC hcl bel hs hy
  go_enter Tryd.func21, Tryd.ntmps21
  go_upto_region 1 with fail
  rw [HB.out, HW.out]
  go_wp2_with (first | (refine wpList_load_ipr (.tmp 2) rfl B U y rfl HBX.out rfl ?_))
  refine Calls.mono QC.out ?_
  rintro e w1 ⟨rfl, hb1⟩
  have k0 : w1.cell? ⟨B, 0, none⟩ = some (.int .i64 U) := (HBX.out.below hb1).cell 0
  have HB1 : Hid (Below w.heap.size w w1) := bthen HBL.out hb1
  clear HBX HBL QC hb1 HW
  by_cases h1 : U = V
  · have q1 : (U == V) = true := by simpa using h1
    by_cases h2 : cl = 7
    · have q2 : (cl == 7) = true := by simpa using h2
      go_wp2
      go_ret
      exact ⟨by unfold stB; rw [HCL.out, q1, q2]; rfl, HB1.out⟩
    · have q2 : (cl == 7) = false := by simpa using h2
      by_cases h3 : cl = 4
      · have q3 : (cl == 4) = true := by simpa using h3
        go_wp2
        go_ret
        exact ⟨by unfold stB; rw [HCL.out, q1, q2, q3]; rfl, HB1.out⟩
      · have q3 : (cl == 4) = false := by simpa using h3
        go_wp2
        go_ret
        exact ⟨by unfold stB; rw [HCL.out, q1, q2, q3]; rfl, HB1.out⟩
  · have q1 : (U == V) = false := by simpa using h1
    go_wp2
    go_ret
    exact ⟨by unfold stB; rw [q1]; rfl, HB1.out⟩
set_option maxHeartbeats 1600000 in
set_option maxRecDepth 100000 in
theorem check_any (r : RV) (w : World) (hs : Spe8 w) (hx : ∀ i, i < 16 → r.p.x i < 256) (hy : ∀ i, i < 16 → r.y i < 256) : Calls Tryd.prog 14 #[.agg (rtC r)] w fun e w' => e = .returned (.int .i64 (chkR r : Nat)) ∧ Below w.heap.size w w' := by
  have hb := rte_new w r
  have bel : Below w.heap.size w (w.alloc (.cells (rtC r) 29)) := (Below.refl _ _).alloc (Nat.le_refl _) _
  obtain ⟨C, hC⟩ : ∃ C, C = rtC r := ⟨_, rfl⟩
  obtain ⟨W, hW⟩ : ∃ W, W = w.alloc (.cells (rtC r) 29) := ⟨_, rfl⟩
  rw [← hW] at hb bel
  obtain ⟨B, hB⟩ : ∃ B, B = w.heap.size := ⟨_, rfl⟩
  rw [← hB] at hb
  have HBX : Hid (RteAt W B r) := hb
  rw [← hC] at hW ⊢
  have HB : Hid (w.heap.size = B) := hB.symm
  have HBL : Hid (Below w.heap.size w W) := bel
  have HW : Hid (w.alloc (.cells C 29) = W) := hW.symm
  have QV : Hid _ := vpref_any r.p W hx
  obtain ⟨vp, hvp⟩ : ∃ vp, vp = vpE r.p := ⟨_, rfl⟩
  rw [← hvp] at QV
  have HVP : Hid (vpE r.p = vp) := hvp.symm
  have HS : Hid (∀ A, Below W.heap.size W A → Spe8 A) := fun A hA => (hs.old bel).old hA
  have HY : Hid (∀ i, i < 16 → r.y i < 256) := hy
  clear hb hW hB hC hvp bel hs hy hx
  go_enter Tryd.func14, Tryd.ntmps14
  go_upto_region 1 with fail
  rw [HB.out, HW.out]
  go_wp2_with (first | (refine wpList_mid_pfx (.tmp 3) rfl B 0 r.p rfl HBX.out.pfx rfl ?_))
  refine Calls.mono QV.out ?_
  rintro e w1 ⟨rfl, hb1⟩
  have HBX1 : Hid (RteAt w1 B r) := HBX.out.below hb1
  have HB1 : Hid (Below w.heap.size w w1) := bthen HBL.out hb1
  have HW1 : Hid (Below W.heap.size W w1) := hb1
  clear HBX HBL QV hb1 HW
  by_cases h0 : vp = 0
  · subst h0
    have cp := HBX1.out.cp
    by_cases h1 : r.pt < 0
    · have q1 : decide (r.pt < 0) = true := by simpa using h1
      go_wp2
      go_ret
      refine ⟨?_, HB1.out⟩
      unfold chkR
      rw [if_pos HVP.out, if_pos (.inl h1)]
      rfl
    · have q1 : decide (r.pt < 0) = false := by simpa using h1
      by_cases h2 : 8 ≤ r.pt
      · have q2 : decide (r.pt ≥ 8) = true := by simpa using h2
        go_wp2
        go_ret
        refine ⟨?_, HB1.out⟩
        unfold chkR
        rw [if_pos HVP.out, if_pos (.inr h2)]
        rfl
      · have q2 : decide (r.pt ≥ 8) = false := by simp; omega
        have q2' : ¬ (8 ≤ r.pt) := h2
        go_upto_region 5 with fail
        by_cases h3 : viaZ r.U r.y = true
        · have HN : Hid ((!(r.U == 0 && same16 r.y (fun _ => 0))) = false) := vz_neq h3
          go_wp2_with (first | (refine wpList_mid_ipr (.tmp 15) rfl B 19 r.U r.y rfl HBX1.out.via rfl ?_) | (refine wpList_neq_ipb (.tmp 16) (.tmp 17) rfl r.U 0 r.y (fun _ => 0) rfl rfl false HN.out rfl ?_; go_wp2))
          go_ret
          refine ⟨?_, HB1.out⟩
          unfold chkR
          rw [if_pos HVP.out, if_neg (by omega), if_neg (by rw [h3]; simp)]
          rfl
        · have h3' : viaZ r.U r.y = false := by simpa using h3
          have HN : Hid ((!(r.U == 0 && same16 r.y (fun _ => 0))) = true) := vz_neq h3'
          have cv := HBX1.out.cv
          have QS : Hid _ := station_any r.U r.y r.p.V w1 (HS.out w1 HW1.out) HY.out
          obtain ⟨sb, hsb⟩ : ∃ sb, sb = stB r.U r.y r.p.V := ⟨_, rfl⟩
          rw [← hsb] at QS
          have HSB : Hid (stB r.U r.y r.p.V = sb) := hsb.symm
          clear hsb
          go_wp2_with (first | (refine wpList_mid_ipr (.tmp 15) rfl B 19 r.U r.y rfl HBX1.out.via rfl ?_) | (refine wpList_mid_ipr (.tmp 20) rfl B 19 r.U r.y rfl HBX1.out.via rfl ?_) | (refine wpList_neq_ipb (.tmp 16) (.tmp 17) rfl r.U 0 r.y (fun _ => 0) rfl rfl true HN.out rfl ?_))
          refine Calls.mono QS.out ?_
          rintro e w2 ⟨rfl, hb2⟩
          have HB2 : Hid (Below w.heap.size w w2) := bthen HB1.out hb2
          clear hb2 QS
          cases sb with
          | true =>
            go_wp2
            go_ret
            refine ⟨?_, HB2.out⟩
            unfold chkR
            rw [if_pos HVP.out, if_neg (by omega), if_neg (by rw [HSB.out]; simp)]
            rfl
          | false =>
            go_wp2
            go_ret
            refine ⟨?_, HB2.out⟩
            unfold chkR
            rw [if_pos HVP.out, if_neg (by omega), if_pos ⟨h3', HSB.out⟩]
            rfl
  · have q0 : ((vp : Int) != 0) = true := by simp; omega
    go_wp2
    go_ret
    refine ⟨?_, HB1.out⟩
    unfold chkR
    rw [if_neg (by rw [HVP.out]; exact h0)]
    rfl
set_option maxHeartbeats 1600000 in
set_option maxRecDepth 100000 in
theorem new_any (w : World) : Calls Tryd.prog 5 #[] w fun e w' => ∃ t M, e = .returned (.pointer (some ⟨t, 0, none⟩)) ∧ TabAt w' t M (.map []) [] ∧ w.heap.size ≤ t ∧ w.heap.size ≤ M ∧ Below w.heap.size w w' := by
  have hmm := @run_makeMap Tryd.prog
  go_enter Tryd.func5, Tryd.ntmps5
  go_wp2
  go_ret
  have hM : ((w.alloc (.map #[] 0)).alloc (.cells #[.map (some w.heap.size)] 50)).ownsMap Tryd.prog 27 anyE w.heap.size 0 (.map []) := (World.ownsMap_made w _ _ _).alloc _
  refine ⟨w.heap.size + 1, w.heap.size, rfl, ⟨?_, hM, rfl, ?_, List.Pairwise.nil, (fun r hr => by cases hr), by omega, (fun l hl => by cases hl)⟩, by omega, by omega, ((Below.refl _ _).alloc (Nat.le_refl _) _).alloc (by simp) _⟩
  · have := heap_alloc_new (w.alloc (.map #[] 0)) (.cells #[.map (some w.heap.size)] 50)
    rw [World.size_alloc] at this
    simp only [World.cell?, this]
    rfl
  · intro p l _
    exact ⟨rfl, rfl⟩
set_option maxHeartbeats 1600000 in
set_option maxRecDepth 100000 in
theorem len_any (t M : Nat) (D : DataW Value) (R : List RV) (w : World) (h : TabAt w t M D R) : Calls Tryd.prog 7 #[.pointer (some ⟨t, 0, none⟩)] w fun e w' => e = .returned (.int .i64 (R.length : Nat)) ∧ w = w' := by
  have c := h.c
  have H : Hid (TabAt w t M D R) := h
  clear h
  go_enter Tryd.func7, Tryd.ntmps7
  go_wp2_with (first | (at_len; refine wpList_len_own _ rfl (.tmp 6) 48 rfl 27 29 Tryd.underlying48 anyE M R.length D rfl H.out.mo ?_))
  rw [H.out.sz]
  go_wp2
  go_ret
  exact ⟨rfl, rfl⟩
end Go.Proofs.YtdjbfhllialinaaDoor
