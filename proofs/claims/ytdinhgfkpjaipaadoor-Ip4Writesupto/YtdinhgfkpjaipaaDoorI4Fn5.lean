/-
  datagram: what the fields tell.
-/
import Derived.Test.YtdinhgfkpjaipaaDoorI4Fn4
namespace Go.Proofs.YtdinhgfkpjaipaaDoor
open Go.RowKit
open I4 (H4)

theorem yields_int {ops : Array Oper} {o : Oper} {a : Act} {S : World → Prop} (x : Operand) (ho : o.op = .load 3 x) (p : Addr) (u : Value) (hx : a.eval x = .pointer (some p)) (hw : Region.wanted o (yielded ops a.tmps) = true) (hS : ∀ w, S w → w.cell? p = some u) : YieldsIf Tryd.prog ops S o u a := by
  refine .inl ⟨hw, fun w hb => ?_⟩
  have hc := hS w hb
  have hu := Tryd.underlying3
  obtain ⟨dst, op, type, pos, after, guard⟩ := o
  simp only at ho
  subst ho
  simp only [execOp, Sem.run_bind, Sem.run_pure]
  rw [hx]
  simp [Instr.loadAt, go_sem, hc]
/-- the row of fields -/
def FldAt (w : World) (g : Nat) (l : List Nat) : Prop := ∀ i, i < 14 → w.cell? ⟨g, i, none⟩ = some (.int .i64 ((l.getD i 0 : Nat) : Int))
theorem FldAt.old {w w' : World} {g : Nat} {l : List Nat} (h : FldAt w g l) (hb : Below w.heap.size w w') : FldAt w' g l := fun i hi => (hb.cell (p := ⟨g, i, none⟩) (World.block_lt_of_cell? w _ (h i hi))).trans (h i hi)
theorem by4_ipx (b : List Nat) (at' : Nat) (h : ∀ x ∈ b, x < 256) : by4 (((b.getD at' 0 * 256 + b.getD (at' + 1) 0) * 256 + b.getD (at' + 2) 0) * 256 + b.getD (at' + 3) 0) = I4.ipx b at' := by
  have g := I4.getD_lt b h
  funext i
  unfold by4 I4.ipx
  split
  · have h0 := g at'
    have h1 := g (at' + 1)
    have h2 := g (at' + 2)
    have h3 := g (at' + 3)
    have : i = 0 ∨ i = 1 ∨ i = 2 ∨ i = 3 := by omega
    rcases this with rfl | rfl | rfl | rfl
    · simp only [Nat.add_zero, Nat.sub_zero, Nat.reducePow]; omega
    · simp only [Nat.reduceSub, Nat.reducePow]; omega
    · simp only [Nat.reduceSub, Nat.reducePow]; omega
    · simp only [Nat.sub_self, Nat.reducePow]; omega
  · rfl
theorem ne_dec (x : Nat) (h : x < 2) : ((x : Int) != 0) = decide (x = 1) := by
  have : x = 0 ∨ x = 1 := by omega
  rcases this with rfl | rfl <;> rfl
set_option maxRecDepth 100000 in
theorem built_h4 (t i f l p : Int) (d m : Bool) (x y : Nat → Nat) : Tryd.prog.built 28 [(0, .int .i64 t), (1, .int .i64 i), (2, .bool d), (3, .bool m), (4, .int .i64 f), (5, .int .i64 l), (6, .int .i64 p), (7, .agg (ipCells 4 x)), (8, .agg (ipCells 4 y))] = some (h4C ⟨t, i, d, m, f, l, p, 4, x, 4, y, [], []⟩ (.slice none 0 0) (.slice none 0 0)) := by kernel_rfl
theorem yields_build_h4 {ops : Array Oper} {S : World → Prop} {o : Oper} {a : Act} (x0 x1 x2 x3 x4 x5 x6 x7 x8 : Operand) (ho : o.op = .build 28 #[(0, x0), (1, x1), (2, x2), (3, x3), (4, x4), (5, x5), (6, x6), (7, x7), (8, x8)]) (t i f l p : Int) (d m : Bool) (x y : Nat → Nat) (h0 : a.eval x0 = .int .i64 t) (h1 : a.eval x1 = .int .i64 i) (h2 : a.eval x2 = .bool d) (h3 : a.eval x3 = .bool m) (h4 : a.eval x4 = .int .i64 f) (h5 : a.eval x5 = .int .i64 l) (h6 : a.eval x6 = .int .i64 p) (h7 : a.eval x7 = .agg (ipCells 4 x)) (h8 : a.eval x8 = .agg (ipCells 4 y))
    (hw : Region.wanted o (yielded ops a.tmps) = true) : YieldsIf Tryd.prog ops S o (.agg (h4C ⟨t, i, d, m, f, l, p, 4, x, 4, y, [], []⟩ (.slice none 0 0) (.slice none 0 0))) a := by
  refine .inl ⟨hw, fun w _ => ?_⟩
  unfold execOp
  have := run_build (P := Tryd.prog) w 28 #[(0, .int .i64 t), (1, .int .i64 i), (2, .bool d), (3, .bool m), (4, .int .i64 f), (5, .int .i64 l), (6, .int .i64 p), (7, .agg (ipCells 4 x)), (8, .agg (ipCells 4 y))] _ (built_h4 t i f l p d m x y)
  simp only [ho, Sem.run_bind, List.map_toArray, List.map_cons, List.map_nil, h0, h1, h2, h3, h4, h5, h6, h7, h8, this, Result.andThen_ok]
  rfl
set_option maxHeartbeats 1600000 in
set_option maxRecDepth 100000 in
theorem datagram_x (g c x2 x4 x6 x7 x8 x9 x10 x12 x13 : Nat) (w : World) (k2 : w.cell? ⟨g, 2, none⟩ = some (.int .i64 x2)) (k4 : w.cell? ⟨g, 4, none⟩ = some (.int .i64 x4)) (k6 : w.cell? ⟨g, 6, none⟩ = some (.int .i64 x6)) (k7 : w.cell? ⟨g, 7, none⟩ = some (.int .i64 x7)) (k8 : w.cell? ⟨g, 8, none⟩ = some (.int .i64 x8)) (k9 : w.cell? ⟨g, 9, none⟩ = some (.int .i64 x9)) (k10 : w.cell? ⟨g, 10, none⟩ = some (.int .i64 x10)) (k12 : w.cell? ⟨g, 12, none⟩ = some (.int .i64 x12)) (k13 : w.cell? ⟨g, 13, none⟩ = some (.int .i64 x13))
    (h8 : x8 < 8192) (h12 : x12 < 4294967296) (h13 : x13 < 4294967296) (glt : g < w.heap.size) :
    Calls Tryd.prog 55 #[.slice (some ⟨g, 0, none⟩) 14 c] w fun e w' => e = .returned (.agg (h4C ⟨x2, x4, (x6 : Int) != 0, (x7 : Int) != 0, (x8 : Int) * 8, x9, x10, 4, by4 x12, 4, by4 x13, [], []⟩ (.slice none 0 0) (.slice none 0 0))) ∧ Below w.heap.size w w' := by
  have w8 : IntKind.i64.wrap ((x8 : Int) * 8) = (x8 : Int) * 8 := by rw [IntKind.wrap_i64]; omega
  obtain ⟨W, hW⟩ : ∃ W, W = w.alloc (.cells (h4C h4z (.slice none 0 0) (.slice none 0 0)) 28) := ⟨_, rfl⟩
  obtain ⟨O, hO⟩ : ∃ O, O = w.heap.size := ⟨_, rfl⟩
  have bel : Below w.heap.size w W := by rw [hW]; exact (Below.refl _ _).alloc (Nat.le_refl _) _
  have box : H4At W O h4z (.slice none 0 0) (.slice none 0 0) := by rw [hW, hO]; exact h4At_new _ _ _ _
  have HW0 := hW.symm
  simp only [h4C, h4z, Int.natCast_zero] at HW0
  have HW : Hid _ := HW0
  have HO : Hid (w.heap.size = O) := hO.symm
  have H12 : Hid (x12 < 4294967296) := h12
  have H13 : Hid (x13 < 4294967296) := h13
  have HG : Hid (g < O) := by rw [hO]; exact glt
  obtain ⟨S, hSd⟩ : ∃ S : World → Prop, S = fun w' => w'.heap[g]? = w.heap[g]? := ⟨_, rfl⟩
  have SB : Hid (∀ A B : World, S A → O ≤ A.heap.size → Below A.heap.size A B → S B) := by
    intro A B hA hs hb
    rw [hSd] at hA ⊢
    exact (hb.block g (by rw [← HO.out] at hs; omega)).trans hA
  have SC : Hid (∀ A B : World, S A → Ch (fun q => q = O) A B → S B) := by
    intro A B hA k
    rw [hSd] at hA ⊢
    have hlt : g < A.heap.size := by
      have h1 := Array.getElem?_eq_getElem (xs := w.heap) (i := g) glt
      rw [h1] at hA
      exact (Array.getElem?_eq_some_iff.1 hA).1
    exact (k.block g hlt (by have := HG.out; omega)).trans hA
  have SW : Hid (S W) := by
    show S W
    rw [hSd]
    exact bel.block g glt
  have K2 : Hid (∀ A, S A → A.cell? ⟨g, 2, none⟩ = some (.int .i64 x2)) := fun A hA => (World.cell?_of_block (by rw [hSd] at hA; exact hA)).trans k2
  have K4 : Hid (∀ A, S A → A.cell? ⟨g, 4, none⟩ = some (.int .i64 x4)) := fun A hA => (World.cell?_of_block (by rw [hSd] at hA; exact hA)).trans k4
  have K6 : Hid (∀ A, S A → A.cell? ⟨g, 6, none⟩ = some (.int .i64 x6)) := fun A hA => (World.cell?_of_block (by rw [hSd] at hA; exact hA)).trans k6
  have K7 : Hid (∀ A, S A → A.cell? ⟨g, 7, none⟩ = some (.int .i64 x7)) := fun A hA => (World.cell?_of_block (by rw [hSd] at hA; exact hA)).trans k7
  have K8 : Hid (∀ A, S A → A.cell? ⟨g, 8, none⟩ = some (.int .i64 x8)) := fun A hA => (World.cell?_of_block (by rw [hSd] at hA; exact hA)).trans k8
  have K9 : Hid (∀ A, S A → A.cell? ⟨g, 9, none⟩ = some (.int .i64 x9)) := fun A hA => (World.cell?_of_block (by rw [hSd] at hA; exact hA)).trans k9
  have K10 : Hid (∀ A, S A → A.cell? ⟨g, 10, none⟩ = some (.int .i64 x10)) := fun A hA => (World.cell?_of_block (by rw [hSd] at hA; exact hA)).trans k10
  have K12 : Hid (∀ A, S A → A.cell? ⟨g, 12, none⟩ = some (.int .i64 x12)) := fun A hA => (World.cell?_of_block (by rw [hSd] at hA; exact hA)).trans k12
  have K13 : Hid (∀ A, S A → A.cell? ⟨g, 13, none⟩ = some (.int .i64 x13)) := fun A hA => (World.cell?_of_block (by rw [hSd] at hA; exact hA)).trans k13
  clear HW0 hW hO h12 h13 hSd k2 k4 k6 k7 k8 k9 k10 k12 k13 glt
  go_enter Tryd.func55, Tryd.ntmps55
  go_upto_region 1 with fail
  rw [HW.out, HO.out]
  refine MixH.start S (by kernel_rfl) ?_
  obtain ⟨wA, hwA⟩ : ∃ wA, wA = W.drew := ⟨_, rfl⟩
  have hS : S wA := SB.out W wA SW.out (by rw [← HO.out]; exact bel.size) (by rw [hwA]; exact (Below.refl _ _).drew)
  have hbx : H4At wA O h4z (.slice none 0 0) (.slice none 0 0) := by rw [hwA]; exact box
  have bel0 : Below w.heap.size w wA := by rw [hwA]; exact bel.drew
  rw [← hwA]
  clear hwA box bel HW SW
  refine MixH.takes [true, true, false, true, true, false, true, true, false, false, true, true, false, false, true, true, false, false, true, true, false, true, true, false, true, true, false, false, true, true] 16 (by kernel_rfl) (by kernel_rfl) (by decide) (by kernel_rfl) hS (fun K hK => ?_)
  simp only [Mix.pick]
  repeat (go_big_quiet_step (fail))
  refine wpQuiet_nil (hK _ ?_)
  clear hK K
  refine MixH.take 15 2 _ (.int .i64 (x2 : Nat)) rfl (by kernel_rfl) (by kernel_rfl) (by kernel_rfl) (by kernel_rfl) (yields_int (.tmp 4) rfl ⟨g, 2, none⟩ _ rfl rfl K2.out) hS (fun a' ha => ?_)
  simp only [Act.put, List.setIfInBounds_toArray, List.set_cons_succ, List.set_cons_zero] at ha
  subst ha
  refine MixH.take 14 5 _ (.int .i64 (x4 : Nat)) rfl (by kernel_rfl) (by kernel_rfl) (by kernel_rfl) (by kernel_rfl) (yields_int (.tmp 7) rfl ⟨g, 4, none⟩ _ rfl rfl K4.out) hS (fun a' ha => ?_)
  simp only [Act.put, List.setIfInBounds_toArray, List.set_cons_succ, List.set_cons_zero] at ha
  subst ha
  refine MixH.take 13 8 _ (.int .i64 (x6 : Nat)) rfl (by kernel_rfl) (by kernel_rfl) (by kernel_rfl) (by kernel_rfl) (yields_int (.tmp 10) rfl ⟨g, 6, none⟩ _ rfl rfl K6.out) hS (fun a' ha => ?_)
  simp only [Act.put, List.setIfInBounds_toArray, List.set_cons_succ, List.set_cons_zero] at ha
  subst ha
  refine MixH.take 12 12 _ (.int .i64 (x7 : Nat)) rfl (by kernel_rfl) (by kernel_rfl) (by kernel_rfl) (by kernel_rfl) (yields_int (.tmp 14) rfl ⟨g, 7, none⟩ _ rfl rfl K7.out) hS (fun a' ha => ?_)
  simp only [Act.put, List.setIfInBounds_toArray, List.set_cons_succ, List.set_cons_zero] at ha
  subst ha
  refine MixH.take 11 16 _ (.int .i64 (x8 : Nat)) rfl (by kernel_rfl) (by kernel_rfl) (by kernel_rfl) (by kernel_rfl) (yields_int (.tmp 18) rfl ⟨g, 8, none⟩ _ rfl rfl K8.out) hS (fun a' ha => ?_)
  simp only [Act.put, List.setIfInBounds_toArray, List.set_cons_succ, List.set_cons_zero] at ha
  subst ha
  refine MixH.take 10 20 _ (.int .i64 (x9 : Nat)) rfl (by kernel_rfl) (by kernel_rfl) (by kernel_rfl) (by kernel_rfl) (yields_int (.tmp 22) rfl ⟨g, 9, none⟩ _ rfl rfl K9.out) hS (fun a' ha => ?_)
  simp only [Act.put, List.setIfInBounds_toArray, List.set_cons_succ, List.set_cons_zero] at ha
  subst ha
  refine MixH.take 9 23 _ (.int .i64 (x10 : Nat)) rfl (by kernel_rfl) (by kernel_rfl) (by kernel_rfl) (by kernel_rfl) (yields_int (.tmp 25) rfl ⟨g, 10, none⟩ _ rfl rfl K10.out) hS (fun a' ha => ?_)
  simp only [Act.put, List.setIfInBounds_toArray, List.set_cons_succ, List.set_cons_zero] at ha
  subst ha
  refine MixH.take 8 26 _ (.int .i64 (x12 : Nat)) rfl (by kernel_rfl) (by kernel_rfl) (by kernel_rfl) (by kernel_rfl) (yields_int (.tmp 28) rfl ⟨g, 12, none⟩ _ rfl rfl K12.out) hS (fun a' ha => ?_)
  simp only [Act.put, List.setIfInBounds_toArray, List.set_cons_succ, List.set_cons_zero] at ha
  subst ha
  refine MixH.take 7 30 _ (.int .i64 (x13 : Nat)) rfl (by kernel_rfl) (by kernel_rfl) (by kernel_rfl) (by kernel_rfl) (yields_int (.tmp 32) rfl ⟨g, 13, none⟩ _ rfl rfl K13.out) hS (fun a' ha => ?_)
  simp only [Act.put, List.setIfInBounds_toArray, List.set_cons_succ, List.set_cons_zero] at ha
  subst ha
  refine MixH.takes [false, false, false, false, false, false, false, false, false, true, false, false, false, true, false, false, false, true] 4 (by kernel_rfl) (by kernel_rfl) (by decide) (by kernel_rfl) hS (fun K hK => ?_)
  simp only [Mix.pick]
  repeat (go_big_quiet_step (fail))
  refine wpQuiet_nil (hK _ ?_)
  clear hK K
  refine MixH.one [false, false, false, false, false, false, false, false, false, false, false, false, false, false, false, false, false, false, false, false, false, false, false, false, false, false, false, true] 3 27 _ rfl rfl (by kernel_rfl) (by kernel_rfl) (fun K hK => ?_)
  simp only [Mix.pick]
  have Q1 : Hid _ := address_any x12 wA H12.out
  go_wp2_with fail
  refine Calls.mono Q1.out ?_
  rintro e w1 ⟨rfl, hb1⟩
  have bel1 := bthen bel0 hb1
  replace hS : S w1 := SB.out _ _ hS (by have := bel0.size; have := HO.out; omega) hb1
  replace hbx := hbx.below hb1
  clear Q1 hb1
  go_wp2
  refine ⟨rfl, hK _ _ hS ?_⟩
  clear hK K
  refine MixH.one [false, false, false, false, false, false, false, false, false, false, false, false, false, false, false, false, false, false, false, false, false, false, false, false, false, false, false, false, false, false, false, true] 2 31 _ rfl rfl (by kernel_rfl) (by kernel_rfl) (fun K hK => ?_)
  simp only [Mix.pick]
  have Q1 : Hid _ := address_any x13 w1 H13.out
  go_wp2_with fail
  refine Calls.mono Q1.out ?_
  rintro e w2 ⟨rfl, hb1⟩
  have bel2 := bthen bel1 hb1
  replace hS : S w2 := SB.out _ _ hS (by have := bel1.size; have := HO.out; omega) hb1
  replace hbx := hbx.below hb1
  clear Q1 hb1
  go_wp2
  refine ⟨rfl, hK _ _ hS ?_⟩
  clear hK K
  refine MixH.take 1 32 _ (.agg (h4C ⟨x2, x4, (x6 : Int) != 0, (x7 : Int) != 0, (x8 : Int) * 8, x9, x10, 4, by4 x12, 4, by4 x13, [], []⟩ (.slice none 0 0) (.slice none 0 0))) rfl (by kernel_rfl) (by kernel_rfl) (by kernel_rfl) (by kernel_rfl) (yields_build_h4 _ _ _ _ _ _ _ _ _ rfl _ _ _ _ _ _ _ _ _ rfl rfl rfl rfl rfl rfl rfl rfl rfl rfl) hS (fun a' ha => ?_)
  simp only [Act.put, List.setIfInBounds_toArray, List.set_cons_succ, List.set_cons_zero] at ha
  subst ha
  refine MixH.one [false, false, false, false, false, false, false, false, false, false, false, false, false, false, false, false, false, false, false, false, false, false, false, false, false, false, false, false, false, false, false, false, false, true] 0 33 _ rfl rfl (by kernel_rfl) (by kernel_rfl) (fun K hK => ?_)
  simp only [Mix.pick]
  refine wpList_store_h4 (.tmp 2) (.tmp 35) rfl rfl O h4z ⟨x2, x4, (x6 : Int) != 0, (x7 : Int) != 0, (x8 : Int) * 8, x9, x10, 4, by4 x12, 4, by4 x13, [], []⟩ _ _ (.slice none 0 0) (.slice none 0 0) rfl rfl rfl rfl hbx rfl ?_
  intro w3 hR3 k3
  have hfin : Below w.heap.size w w3 := bel2.trans (k3.below (fun q e => by have := HO.out; omega) bel2.size)
  replace hS : S w3 := SC.out _ _ hS k3
  have HF : Hid _ := hfin
  have HR3 : Hid _ := hR3
  clear k3 hfin hR3 bel2 hbx
  go_wp2
  refine ⟨rfl, hK _ _ hS ?_⟩
  clear hK K
  refine MixH.done (by kernel_rfl) ?_
  go_wp2
  (try simp only [Exit.inBlock, Exit.then])
  refine bodyPost_ret (v := .agg (h4C ⟨x2, x4, (x6 : Int) != 0, (x7 : Int) != 0, (x8 : Int) * 8, x9, x10, 4, by4 x12, 4, by4 x13, [], []⟩ (.slice none 0 0) (.slice none 0 0))) ?_ rfl ?_
  · exact results_cell_row rfl _ _ O 28 _ _ _ rfl HR3.out Tryd.underlying28 rfl Tryd.sizeH4
  exact ⟨rfl, HF.out⟩
set_option maxRecDepth 100000 in
theorem datagram_any (g c : Nat) (bs : List Nat) (w : World) (h : FldAt w g (I4.flds (fun i => bs.getD i 0))) (h256 : ∀ x ∈ bs, x < 256) :
    Calls Tryd.prog 55 #[.slice (some ⟨g, 0, none⟩) 14 c] w fun e w' => e = .returned (.agg (h4C (I4.pH bs) (.slice none 0 0) (.slice none 0 0))) ∧ Below w.heap.size w w' := by
  have gd := I4.getD_lt bs h256
  have h0 := h 0 (by omega)
  refine (datagram_x g c (bs.getD 1 0) (bs.getD 4 0 * 256 + bs.getD 5 0) (bs.getD 6 0 / 64 % 2) (bs.getD 6 0 / 32 % 2) (bs.getD 6 0 % 32 * 256 + bs.getD 7 0) (bs.getD 8 0) (bs.getD 9 0)
    (((bs.getD 12 0 * 256 + bs.getD 13 0) * 256 + bs.getD 14 0) * 256 + bs.getD 15 0) (((bs.getD 16 0 * 256 + bs.getD 17 0) * 256 + bs.getD 18 0) * 256 + bs.getD 19 0) w
    (h 2 (by omega)) (h 4 (by omega)) (h 6 (by omega)) (h 7 (by omega)) (h 8 (by omega)) (h 9 (by omega)) (h 10 (by omega)) (h 12 (by omega)) (h 13 (by omega)) ?_ ?_ ?_ (World.block_lt_of_cell? w _ h0)).mono ?_
  · have := gd 7; omega
  · have := gd 12; have := gd 13; have := gd 14; have := gd 15; omega
  · have := gd 16; have := gd 17; have := gd 18; have := gd 19; omega
  · rintro e w' ⟨rfl, hb⟩
    refine ⟨?_, hb⟩
    rw [by4_ipx bs 12 h256, by4_ipx bs 16 h256, ne_dec _ (by omega), ne_dec _ (by omega)]
    rfl
end Go.Proofs.YtdinhgfkpjaipaaDoor
