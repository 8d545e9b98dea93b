/-
  The statements' firsts and awake: they answer true.
-/
import Derived.Test.YtkhalknpfikghaaDoorI8Ref2
namespace Go.Proofs.YtkhalknpfikghaaDoor.MixH
open Go.Proofs.YtkhalknpfikghaaDoor.Mix
/-- one of two may come up -/
theorem pair {P : Program} {l : List Oper} {Q : Exit → Act → World → Prop} {S : World → Prop} {F : Nat} {listed : Array Bool} {a : Act} {w : World} (fs1 fs2 : List Bool) (fuel : Nat) (i j : Nat) (o1 o2 : Oper) (ho1 : pick fs1 l = [o1]) (ho2 : pick fs2 l = [o2]) (hi : l[i]? = some o1) (hj : l[j]? = some o2) (hr : Region.ready .any l.toArray listed = [i, j]) (hF : F = fuel + 1)
    (h1 : ∀ K : Act → World → Prop, (∀ a' w', S w' → wpAnyH P .any l.toArray (only Q) S fuel (listed.setIfInBounds i true) a' w' → K a' w') → wpList P l.toArray (only fun _ => K) (pick fs1 l) a w)
    (h2 : ∀ K : Act → World → Prop, (∀ a' w', S w' → wpAnyH P .any l.toArray (only Q) S fuel (listed.setIfInBounds j true) a' w' → K a' w') → wpList P l.toArray (only fun _ => K) (pick fs2 l) a w) : wpAnyH P .any l.toArray (only Q) S F listed a w := by
  subst hF
  refine wpAnyH_all hr (by simp) fun m hm => ?_
  simp only [List.mem_cons, List.not_mem_nil, or_false] at hm
  rcases hm with rfl | rfl
  · have h0 := h1 _ (fun _ _ hs h => (⟨hs, h⟩ : _ ∧ _))
    rw [ho1] at h0
    have hi' : l.toArray[m]? = some o1 := by simpa using hi
    unfold wpOp
    simp only [hi']
    unfold wpList at h0
    split
    · rename_i hw
      rw [if_pos hw] at h0
      rcases h0 with h0 | ⟨_, h0⟩
      · exact .inl (wp_only (fun a w h => h.2) h0)
      · exact absurd h0 (no_out _)
    · rename_i hw
      rw [if_neg hw] at h0
      exact h0.2
  · have h0 := h2 _ (fun _ _ hs h => (⟨hs, h⟩ : _ ∧ _))
    rw [ho2] at h0
    have hi' : l.toArray[m]? = some o2 := by simpa using hj
    unfold wpOp
    simp only [hi']
    unfold wpList at h0
    split
    · rename_i hw
      rw [if_pos hw] at h0
      rcases h0 with h0 | ⟨_, h0⟩
      · exact .inl (wp_only (fun a w h => h.2) h0)
      · exact absurd h0 (no_out _)
    · rename_i hw
      rw [if_neg hw] at h0
      exact h0.2
end Go.Proofs.YtkhalknpfikghaaDoor.MixH
namespace Go.Proofs.YtkhalknpfikghaaDoor
open Go.RowKit
open I8 (M8)

theorem wpList_load_nd {ops : Array Oper} {rest : List Oper} {o : Oper} {a : Act} {w : World} {Q : Exit → Act → World → Prop} (x : Operand) (ho : o.op = .load 79 x) (O : Nat) (C : Array Value) (hC : C.size = 28) (hx : a.eval x = .pointer (some ⟨O, 0, none⟩)) (hb : NdAt w O C)
    (hw : Region.wanted o (yielded ops a.tmps) = true) (hh : wpList Tryd.prog ops Q rest (a.put o.dst (.agg C)) w) : wpList Tryd.prog ops Q (o :: rest) a w := by
  refine wpList_step fun K hK => ?_
  rw [if_pos hw]
  exact wp_load_row 79 x ho O hx _ _ _ _ hb Tryd.underlying79 rfl (by rw [hC]; exact Tryd.sizeNd) (hK _ _ hh)
theorem Tryd.sizeIPz : (Tryd.prog.info? 24).map (·.size) = some 17 := by kernel_rfl
def IpRow (w : World) (O : Nat) (C : Array Value) : Prop := w.heap[O]? = some (.cells C 24 (0, 0))
theorem ipRow_boxed {w : World} {O : Nat} {V : Int} {x : Nat → Nat} (h : IpRow w O (ipCells V x)) : Boxed w O V x := by
  have hc : ∀ i, w.cell? ⟨O, i, none⟩ = (ipCells V x)[i]? := fun i => by unfold IpRow at h; simp [World.cell?, h]
  refine ⟨hc 0, fun i hi => ?_⟩
  rw [hc, ipCells_eq]
  simp [Nat.add_comm 1 i, hi]
theorem built_ip0 : Tryd.prog.built 24 [] = some (ipCells 0 (fun _ => 0)) := by kernel_rfl
theorem built_ip4 : Tryd.prog.built 24 [(0, .int .i64 4)] = some (ipCells 4 (fun _ => 0)) := by kernel_rfl
theorem wpList_ip0_built {ops : Array Oper} {rest : List Oper} {o : Oper} {a : Act} {w : World} {Q : Exit → Act → World → Prop} (ho : o.op = .build 24 #[]) (hw : Region.wanted o (yielded ops a.tmps) = true)
    (h : wpList Tryd.prog ops Q rest (a.put o.dst (.agg (ipCells 0 (fun _ => 0)))) w) : wpList Tryd.prog ops Q (o :: rest) a w := by
  refine wpList_step fun K hK => ?_
  rw [if_pos hw]
  unfold Oper.wp execOp
  have := run_build (P := Tryd.prog) w 24 #[] _ built_ip0
  simp only [ho, Sem.run_bind, List.map_toArray, List.map_nil, this, Result.andThen_ok]
  exact hK _ _ h
theorem wpList_ip4_built {ops : Array Oper} {rest : List Oper} {o : Oper} {a : Act} {w : World} {Q : Exit → Act → World → Prop} (ho : o.op = .build 24 #[(0, .const (.int .i64 4))]) (hw : Region.wanted o (yielded ops a.tmps) = true)
    (h : wpList Tryd.prog ops Q rest (a.put o.dst (.agg (ipCells 4 (fun _ => 0)))) w) : wpList Tryd.prog ops Q (o :: rest) a w := by
  refine wpList_step fun K hK => ?_
  rw [if_pos hw]
  unfold Oper.wp execOp
  have := run_build (P := Tryd.prog) w 24 #[(0, .int .i64 4)] _ built_ip4
  simp only [ho, Sem.run_bind, List.map_toArray, List.map_cons, List.map_nil, Act.eval, this, Result.andThen_ok]
  exact hK _ _ h
theorem built_mac1 : Tryd.prog.built 77 [(0, .int .u8 1)] = some (macC mac1) := by kernel_rfl
def ndZ : Array Value := ndC 0 0 (fun _ => 0) false false false false (fun _ => 0)
theorem ndZ_size : ndZ.size = 28 := by kernel_rfl
theorem ndD_size : ndD.size = 28 := by kernel_rfl
theorem ndD_one : ndD.all (·.oneCell') = true := by kernel_rfl
theorem built_ndD : Tryd.prog.built 79 [(0, .int .i64 1), (6, .agg (macC mac1)), (1, .agg (ipCells 4 (fun _ => 0)))] = some ndD := by kernel_rfl
theorem wpList_mac_built {ops : Array Oper} {rest : List Oper} {o : Oper} {a : Act} {w : World} {Q : Exit → Act → World → Prop} (ho : o.op = .build 77 #[(0, .const (.int .u8 1))]) (hw : Region.wanted o (yielded ops a.tmps) = true)
    (h : wpList Tryd.prog ops Q rest (a.put o.dst (.agg (macC mac1))) w) : wpList Tryd.prog ops Q (o :: rest) a w := by
  refine wpList_step fun K hK => ?_
  rw [if_pos hw]
  unfold Oper.wp execOp
  have := run_build (P := Tryd.prog) w 77 #[(0, .int .u8 1)] _ built_mac1
  simp only [ho, Sem.run_bind, List.map_toArray, List.map_cons, List.map_nil, Act.eval, this, Result.andThen_ok]
  exact hK _ _ h
theorem wpList_nd_built {ops : Array Oper} {rest : List Oper} {o : Oper} {a : Act} {w : World} {Q : Exit → Act → World → Prop} (x6 x1 : Operand) (ho : o.op = .build 79 #[(0, .const (.int .i64 1)), (6, x6), (1, x1)]) (h6 : a.eval x6 = .agg (macC mac1)) (h1 : a.eval x1 = .agg (ipCells 4 (fun _ => 0))) (hw : Region.wanted o (yielded ops a.tmps) = true)
    (h : wpList Tryd.prog ops Q rest (a.put o.dst (.agg ndD)) w) : wpList Tryd.prog ops Q (o :: rest) a w := by
  refine wpList_step fun K hK => ?_
  rw [if_pos hw]
  unfold Oper.wp execOp
  have h0 : a.eval (.const (.int .i64 1)) = .int .i64 1 := rfl
  have := run_build (P := Tryd.prog) w 79 #[(0, .int .i64 1), (6, .agg (macC mac1)), (1, .agg (ipCells 4 (fun _ => 0)))] _ built_ndD
  simp only [ho, Sem.run_bind, List.map_toArray, List.map_cons, List.map_nil, h0, h6, h1, this, Result.andThen_ok]
  exact hK _ _ h
theorem wpList_alloc_ip {ops : Array Oper} {rest : List Oper} {o : Oper} {a : Act} {w : World} {Q : Exit → Act → World → Prop} (ho : o.op = .alloc 24) (hw : Region.wanted o (yielded ops a.tmps) = true)
    (h : wpList Tryd.prog ops Q rest (a.put o.dst (.pointer (some ⟨w.heap.size, 0, none⟩))) (w.alloc (.cells (ipCells 0 (fun _ => 0)) 24))) : wpList Tryd.prog ops Q (o :: rest) a w := by
  refine wpList_step fun K hK => ?_
  rw [if_pos hw]
  have hrun : (execOp a.eval o).run Tryd.prog w = .ok (.value (.pointer (some ⟨w.heap.size, 0, none⟩))) (w.alloc (.cells (ipCells 0 (fun _ => 0)) 24)) := by
    obtain ⟨dst, op, type, pos, after, guard⟩ := o
    simp only at ho
    subst ho
    simp only [execOp]
    go_simp
    rfl
  unfold Oper.wp
  rw [hrun]
  exact hK _ _ h
set_option maxRecDepth 100000 in
theorem wpList_alloc_nd {ops : Array Oper} {rest : List Oper} {o : Oper} {a : Act} {w : World} {Q : Exit → Act → World → Prop} (ho : o.op = .alloc 79) (hw : Region.wanted o (yielded ops a.tmps) = true)
    (h : wpList Tryd.prog ops Q rest (a.put o.dst (.pointer (some ⟨w.heap.size, 0, none⟩))) (w.alloc (.cells ndZ 79))) : wpList Tryd.prog ops Q (o :: rest) a w := by
  refine wpList_step fun K hK => ?_
  rw [if_pos hw]
  have hrun : (execOp a.eval o).run Tryd.prog w = .ok (.value (.pointer (some ⟨w.heap.size, 0, none⟩))) (w.alloc (.cells ndZ 79)) := by
    obtain ⟨dst, op, type, pos, after, guard⟩ := o
    simp only at ho
    subst ho
    simp only [execOp]
    go_simp
    rfl
  unfold Oper.wp
  rw [hrun]
  exact hK _ _ h
theorem wpList_store_ip {ops : Array Oper} {rest : List Oper} {o : Oper} {a : Act} {w : World} {Q : Exit → Act → World → Prop} (x y : Operand) (ho : o.op = .store 24 x y) (hd : o.dst = none) (O : Nat) (V U : Int) (f g : Nat → Nat) (hx : a.eval x = .pointer (some ⟨O, 0, none⟩)) (hy : a.eval y = .agg (ipCells U g)) (hb : IpRow w O (ipCells V f))
    (hw : Region.wanted o (yielded ops a.tmps) = true) (hh : ∀ w', IpRow w' O (ipCells U g) → Ch (fun q => q = O) w w' → wpList Tryd.prog ops Q rest a w') : wpList Tryd.prog ops Q (o :: rest) a w := by
  refine wpList_step fun K hK => ?_
  rw [if_pos hw]
  refine wp_store_row 24 x y ho O (ipCells U g) hx hy _ (ipCells V f) hb Tryd.sizeIPz rfl (by simp [ipCells, Value.oneCell']) (hK _ _ ?_)
  rw [hd]
  refine hh _ (setRow_heap w O _ _ _ _ hb) ⟨rfl, rfl, rfl, ?_, ?_⟩
  · simp [World.setRow]
  · intro k hk hne
    simp only [World.setRow]
    rw [Array.getElem?_modify, if_neg (fun e => hne e.symm)]
theorem wpList_store_nd {ops : Array Oper} {rest : List Oper} {o : Oper} {a : Act} {w : World} {Q : Exit → Act → World → Prop} (x y : Operand) (ho : o.op = .store 79 x y) (hd : o.dst = none) (O : Nat) (C D : Array Value) (hC : C.size = 28) (hD : D.size = 28) (h1 : D.all (·.oneCell') = true) (hx : a.eval x = .pointer (some ⟨O, 0, none⟩)) (hy : a.eval y = .agg D) (hb : NdAt w O C)
    (hw : Region.wanted o (yielded ops a.tmps) = true) (hh : ∀ w', NdAt w' O D → Ch (fun q => q = O) w w' → wpList Tryd.prog ops Q rest a w') : wpList Tryd.prog ops Q (o :: rest) a w := by
  refine wpList_step fun K hK => ?_
  rw [if_pos hw]
  refine wp_store_row 79 x y ho O D hx hy _ C hb (by rw [hD]; exact Tryd.sizeNd) (by rw [hC, hD]) h1 (hK _ _ ?_)
  rw [hd]
  refine hh _ (setRow_heap w O _ _ _ _ hb) ⟨rfl, rfl, rfl, ?_, ?_⟩
  · simp [World.setRow]
  · intro k hk hne
    simp only [World.setRow]
    rw [Array.getElem?_modify, if_neg (fun e => hne e.symm)]
theorem wpList_make_z {ops : Array Oper} {rest : List Oper} {o : Oper} {a : Act} {w : World} {Q : Exit → Act → World → Prop} (hg : o.guard = none) (l c : Operand) (ho : o.op = .makeSlice 25 l c) (n : Nat) (hn : n ≤ 1048576) (L : Int) (hL : L = (n : Int)) (hl : a.eval l = .int .i64 L) (hc : a.eval c = .int .i64 L)
    (hh : ∀ w', Below w.heap.size w w' → wpList Tryd.prog ops Q rest (a.put o.dst (.slice (some ⟨w.heap.size, 0, none⟩) n n)) w') : wpList Tryd.prog ops Q (o :: rest) a w := by
  obtain ⟨i0, hi, hz0, hz1, hz2⟩ := info_parts Tryd.infoByte
  exact wpList_make_full w hg l c 25 ho w.heap.size 5 i0 (.int .u8 0) 1 Tryd.underlying25 hi hz0 hz1 .i64 .i64 L L n hl hc hL hL (by rw [hz2]; omega) (by unfold maxLen; omega) (Nat.le_refl _) (fun w' _ h2 => hh w' (below_of_grown h2 rfl))
theorem long_dd : ∃ dd : List Nat, dd.length = 65536 ∧ ∀ z ∈ dd, z < 256 := ⟨List.replicate 65536 0, List.length_replicate, fun z hz => by rw [(List.mem_replicate.1 hz).2]; omega⟩
theorem zero_16 : ∀ i, i < 16 → (fun _ : Nat => 0) i < 256 := fun i _ => by show 0 < 256; omega
theorem pE_long (v : Int) (b : Bool) (p dd : List Nat) (h : dd.length = 65536) : I8.pE v b p dd = 2 := by
  unfold I8.pE
  rw [h, if_pos (by omega)]
theorem pC_two (v : Int) (a : Option Addr) (n : Nat) (bs : List Nat) : pC 2 v a n bs = mC m8z none 0 0 := by unfold pC; rw [if_neg (by omega)]
theorem icParse_long (W : World) (ad : Option Addr) (hW : Wid8 W) : Calls Tryd.prog 8 #[.int .i64 5, .agg (ipCells 0 (fun _ => 0)), .agg (ipCells 0 (fun _ => 0)), .slice ad 65536 65536] W fun e w' => e = .returned (.tuple #[.agg (mC m8z none 0 0), .int .i64 2]) ∧ Below W.heap.size W w' := by
  obtain ⟨dd, h1, h2⟩ := long_dd
  refine (icParse_any 5 0 0 (fun _ => 0) (fun _ => 0) ad 65536 65536 dd W h1 hW (fun h => absurd h (by omega)) h2 (by omega) (by omega) zero_16 zero_16).mono ?_
  rintro e w' ⟨er, rfl, hb, he⟩
  rw [pE_long _ _ _ _ h1] at he
  subst he
  exact ⟨by rw [pC_two]; rfl, hb⟩
theorem rParse_long (W : World) (ad : Option Addr) : Calls Tryd.prog 14 #[.int .i64 5, .agg (ipCells 0 (fun _ => 0)), .agg (ipCells 0 (fun _ => 0)), .slice ad 65536 65536] W fun e w' => e = .returned (.tuple #[.agg (mC m8z none 0 0), .int .i64 2]) ∧ Below W.heap.size W w' := by
  obtain ⟨dd, h1, h2⟩ := long_dd
  refine (rParse_any 5 0 0 (fun _ => 0) (fun _ => 0) ad 65536 65536 dd W h1 (fun h => absurd h (by omega)) h2 (by omega) (by omega) zero_16 zero_16).mono ?_
  rintro e w' ⟨er, va, vc, rfl, hb, he, _⟩
  rw [pE_long _ _ _ _ h1] at he
  subst he
  exact ⟨by rw [if_neg (by omega)]; rfl, hb⟩
def m5 : M8 := ⟨5, -1, 0, 0, []⟩
theorem m5_chk : I8.chk m5 = 1 := by decide
set_option maxHeartbeats 6400000 in
set_option maxRecDepth 100000 in
theorem firsts_any (w : World) (hw : Wid8 w) (hd : Dis8 w) : Calls Tryd.prog 19 #[] w fun e w' => e = .returned (.bool true) ∧ Below w.heap.size w w' := by
  obtain ⟨dd, hdl, hd2⟩ := long_dd
  have HDL : Hid (dd.length = 65536) := hdl
  have HQR : Hid (∀ (W : World) (ad : Option Addr), Calls Tryd.prog 14 #[.int .i64 5, .agg (ipCells 0 (fun _ => 0)), .agg (ipCells 0 (fun _ => 0)), .slice ad 65536 65536] W fun e w' => e = .returned (.tuple #[.agg (mC m8z none 0 0), .int .i64 2]) ∧ Below W.heap.size W w') := fun W ad => rParse_long W ad
  clear hdl hd2
  have HWID : Hid (∀ A, Below w.heap.size w A → Wid8 A) := fun A hA => hw.old hA
  have HDIS : Hid (∀ A, Below w.heap.size w A → Dis8 A) := fun A hA => hd.old hA
  obtain ⟨B, hB⟩ : ∃ B, B = w.heap.size := ⟨_, rfl⟩
  have HB : Hid (w.heap.size = B) := hB.symm
  clear hB hw hd
  go_enter Tryd.func19, Tryd.ntmps19
  go_upto_region 2 with (first | (refine wpList_ip0_built rfl rfl ?_) | (refine wpList_alloc_ip rfl rfl ?_) | (refine wpList_store_ip (.tmp 1) (.tmp 13) rfl rfl w.heap.size 0 0 (fun _ => 0) (fun _ => 0) rfl rfl (heap_alloc_new _ _) rfl ?_))
  intro W1 hR1 k1
  have b1 : Below w.heap.size w W1 := ((Below.refl _ _).alloc (Nat.le_refl _) _).trans (k1.below (fun q e => by have e' : q = w.heap.size := e; omega) (by simp))
  rw [HB.out] at hR1 ⊢
  have HIP1 : Hid (Boxed W1 B 0 (fun _ => 0)) := ipRow_boxed hR1
  clear hR1 k1
  obtain ⟨M2, hM2⟩ : ∃ M2, M2 = W1.heap.size := ⟨_, rfl⟩
  have HM2 : Hid (W1.heap.size = M2) := hM2.symm
  clear hM2
  go_upto_region 3 with (first | (refine wpList_alloc_m8 rfl rfl ?_) | (refine wpList_store_m8 (.tmp 2) (.tmp 14) rfl rfl W1.heap.size m8z m5 none none 0 0 0 0 rfl rfl (mAt_new _ _ _ _ _) rfl ?_))
  intro W2 hR2 k2
  have hb2 : Below W1.heap.size W1 W2 := ((Below.refl _ _).alloc (Nat.le_refl _) _).trans (k2.below (fun q e => by have e' : q = W1.heap.size := e; omega) (by simp))
  have b2 := bthen b1 hb2
  rw [HM2.out] at hR2 ⊢
  have HIP2 : Hid (Boxed W2 B 0 (fun _ => 0)) := HIP1.out.old hb2
  have HMM2 : Hid (MAt W2 M2 m5 none 0 0) := hR2
  clear hR2 k2 hb2 HIP1 b1
  go_upto_region 3 with fail
  go_wp2_with (first | (refine wpList_make_z rfl _ _ rfl 65536 (by omega) 65536 (by omega) rfl rfl ?_))
  intro W3 hb3
  have b3 := bthen b2 hb3
  have HIP3 : Hid (Boxed W3 B 0 (fun _ => 0)) := HIP2.out.old hb3
  have HM3 : Hid (MAt W3 M2 m5 none 0 0) := HMM2.out.below hb3
  obtain ⟨N3, hN3⟩ : ∃ N3, N3 = (some ⟨W2.heap.size, 0, none⟩ : Option Addr) := ⟨_, rfl⟩
  rw [← hN3]
  obtain ⟨P3, hP3⟩ : ∃ P3, P3 = W3.heap.size := ⟨_, rfl⟩
  have HP3 : Hid (W3.heap.size = P3) := hP3.symm
  clear hN3 hP3 hb3 HIP2 HMM2 b2
  go_upto_region 4 with (first | (refine wpList_alloc_m8 rfl rfl ?_) | (refine wpList_store_m8 (.tmp 3) (.tmp 16) rfl rfl W3.heap.size m8z ⟨4, 256, 0, 0, dd⟩ none N3 0 0 65536 65536 rfl rfl (mAt_new _ _ _ _ _) rfl ?_))
  intro W4 hR4 k4
  have hb4 : Below W3.heap.size W3 W4 := ((Below.refl _ _).alloc (Nat.le_refl _) _).trans (k4.below (fun q e => by have e' : q = W3.heap.size := e; omega) (by simp))
  have b4 := bthen b3 hb4
  rw [HP3.out] at hR4 ⊢
  have HIP4 : Hid (Boxed W4 B 0 (fun _ => 0)) := HIP3.out.old hb4
  have HM4 : Hid (MAt W4 M2 m5 none 0 0) := HM3.out.below hb4
  have HN4 : Hid (MAt W4 P3 ⟨4, 256, 0, 0, dd⟩ N3 65536 65536) := hR4
  clear hR4 k4 hb4 HIP3 HM3 b3
  obtain ⟨P4, hP4⟩ : ∃ P4, P4 = W4.heap.size := ⟨_, rfl⟩
  have HP4 : Hid (W4.heap.size = P4) := hP4.symm
  clear hP4
  go_upto_region 5 with (first | (refine wpList_mac_built rfl rfl ?_) | (refine wpList_ip4_built rfl rfl ?_) | (refine wpList_nd_built (.tmp 17) (.tmp 18) rfl rfl rfl rfl ?_) | (refine wpList_alloc_nd rfl rfl ?_) | (refine wpList_store_nd (.tmp 4) (.tmp 19) rfl rfl W4.heap.size ndZ ndD ndZ_size ndD_size ndD_one rfl rfl (ndAt_new _ _) rfl ?_))
  intro w0 hR0 k0
  have hb0 : Below W4.heap.size W4 w0 := ((Below.refl _ _).alloc (Nat.le_refl _) _).trans (k0.below (fun q e => by have e' : q = W4.heap.size := e; omega) (by simp))
  have bel0 := bthen b4 hb0
  rw [HP4.out] at hR0 ⊢
  have HIP0 : Hid (Boxed w0 B 0 (fun _ => 0)) := HIP4.out.old hb0
  have HM0 : Hid (MAt w0 M2 m5 none 0 0) := HM4.out.below hb0
  have HN0 : Hid (MAt w0 P3 ⟨4, 256, 0, 0, dd⟩ N3 65536 65536) := HN4.out.below hb0
  have HND0 : Hid (NdAt w0 P4 ndD) := hR0
  clear hR0 k0 hb0 HIP4 HM4 HN4 b4
  go_upto_region 5 with fail
  have HQ5 : Hid (∀ (W : World) (ad : Option Addr), Below w0.heap.size w0 W → Calls Tryd.prog 8 #[.int .i64 5, .agg (ipCells 0 (fun _ => 0)), .agg (ipCells 0 (fun _ => 0)), .slice ad 65536 65536] W fun e w' => e = .returned (.tuple #[.agg (mC m8z none 0 0), .int .i64 2]) ∧ Below W.heap.size W w') := fun W ad hb => icParse_long W ad (HWID.out W (bthen bel0 hb))
  go_cut [6] (fun s6 wx => s6 = .int .i64 2 ∧ Below w0.heap.size w0 wx)
  case first =>
    refine MixH.start (fun A => Below w0.heap.size w0 A) (by kernel_rfl) ?_
    obtain ⟨wA, hwA⟩ : ∃ wA, wA = w0.drew := ⟨_, rfl⟩
    have hS : Below w0.heap.size w0 wA := by rw [hwA]; exact (Below.refl _ _).drew
    rw [← hwA]
    clear hwA
    refine MixH.take 9 0 _ (.agg (ipCells 0 (fun _ => 0))) rfl (by kernel_rfl) (by kernel_rfl) (by kernel_rfl) (by kernel_rfl) (yields_ip (.tmp 1) rfl B 0 (fun _ => 0) rfl rfl (fun A hA => HIP0.out.old hA)) hS (fun a' ha => ?_)
    simp only [Act.put, List.setIfInBounds_toArray, List.set_cons_succ, List.set_cons_zero] at ha
    subst ha
    refine MixH.take 8 1 _ (.agg (ipCells 0 (fun _ => 0))) rfl (by kernel_rfl) (by kernel_rfl) (by kernel_rfl) (by kernel_rfl) (yields_ip (.tmp 1) rfl B 0 (fun _ => 0) rfl rfl (fun A hA => HIP0.out.old hA)) hS (fun a' ha => ?_)
    simp only [Act.put, List.setIfInBounds_toArray, List.set_cons_succ, List.set_cons_zero] at ha
    subst ha
    refine MixH.pair [false, false, true] [false, false, false, false, false, false, false, true] 7 2 7 _ _ rfl rfl rfl rfl (by kernel_rfl) (by kernel_rfl) (fun K hK => ?_) (fun K hK => ?_)
    · simp only [Mix.pick]
      go_wp2_with (first | (refine wpList_make_z rfl _ _ rfl 65536 (by omega) 65536 (by omega) rfl rfl ?_))
      intro wM1 hbM
      replace hS := bthen hS hbM
      clear hbM
      go_wp2
      refine ⟨rfl, hK _ _ hS ?_⟩
      clear hK K
      refine MixH.pair [false, false, false, true] [false, false, false, false, false, false, false, true] 6 3 7 _ _ rfl rfl rfl rfl (by kernel_rfl) (by kernel_rfl) (fun K hK => ?_) (fun K hK => ?_)
      · simp only [Mix.pick]
        go_wp2_with fail
        refine Calls.mono (HQ5.out wM1 _ hS) ?_
        rintro e wC2 ⟨rfl, hbC⟩
        replace hS := bthen hS hbC
        clear hbC
        go_wp2
        refine ⟨rfl, hK _ _ hS ?_⟩
        clear hK K
        refine MixH.takes [false, false, false, false, true] 5 (by kernel_rfl) (by kernel_rfl) (by decide) (by kernel_rfl) hS (fun K hK => ?_)
        simp only [Mix.pick]
        repeat (go_big_quiet_step (fail))
        refine wpQuiet_nil (hK _ ?_)
        clear hK K
        refine MixH.takes [false, false, false, false, false, true, true] 3 (by kernel_rfl) (by kernel_rfl) (by decide) (by kernel_rfl) hS (fun K hK => ?_)
        simp only [Mix.pick]
        repeat (go_big_quiet_step (fail))
        refine wpQuiet_nil (hK _ ?_)
        clear hK K
        refine MixH.one [false, false, false, false, false, false, false, true] 2 7 _ rfl rfl (by kernel_rfl) (by kernel_rfl) (fun K hK => ?_)
        simp only [Mix.pick]
        have hSn := bthen hS ((Below.refl wC2.heap.size wC2).alloc (Nat.le_refl _) (.cells (mC m8z none 0 0) 27))
        go_wp2_with (first | (refine wpList_alloc_m8 rfl rfl ?_))
        go_wp2
        refine ⟨rfl, hK _ _ hSn ?_⟩
        clear hK K
        obtain ⟨wN3, hwN⟩ : ∃ z, z = wC2.alloc (.cells (mC m8z none 0 0) 27) := ⟨_, rfl⟩
        have HPwN3 : Hid (MAt wN3 wC2.heap.size m8z none 0 0) := by rw [hwN]; exact mAt_new _ _ _ _ _
        have HPLwN3 : Hid (w0.heap.size ≤ wC2.heap.size) := hS.size
        rw [← hwN] at hSn ⊢
        clear hS
        have hS := hSn
        clear hSn hwN
        refine MixH.one [false, false, false, false, false, false, false, false, true] 1 8 _ rfl rfl (by kernel_rfl) (by kernel_rfl) (fun K hK => ?_)
        simp only [Mix.pick]
        go_wp2_with (first | (refine wpList_store_m8 (.tmp 5) (.tmp 25) rfl rfl (wC2.heap.size) m8z m8z none none 0 0 0 0 rfl rfl HPwN3.out rfl ?_))
        intro wE4 hRE kE
        replace hS := hS.trans (kE.below (fun q e => by have e' : q = wC2.heap.size := e; have := HPLwN3.out; omega) hS.size)
        clear hRE kE
        go_wp2
        refine ⟨rfl, hK _ _ hS ?_⟩
        clear hK K
        refine MixH.takes [false, false, false, false, false, false, false, false, false, true] 0 (by kernel_rfl) (by kernel_rfl) (by decide) (by kernel_rfl) hS (fun K hK => ?_)
        simp only [Mix.pick]
        repeat (go_big_quiet_step (fail))
        refine wpQuiet_nil (hK _ ?_)
        clear hK K
        refine MixH.done (by kernel_rfl) ?_
        go_wp2
        go_meet
        exact ⟨rfl, hS⟩
      · simp only [Mix.pick]
        have hSn := bthen hS ((Below.refl wM1.heap.size wM1).alloc (Nat.le_refl _) (.cells (mC m8z none 0 0) 27))
        go_wp2_with (first | (refine wpList_alloc_m8 rfl rfl ?_))
        go_wp2
        refine ⟨rfl, hK _ _ hSn ?_⟩
        clear hK K
        obtain ⟨wN5, hwN⟩ : ∃ z, z = wM1.alloc (.cells (mC m8z none 0 0) 27) := ⟨_, rfl⟩
        have HPwN5 : Hid (MAt wN5 wM1.heap.size m8z none 0 0) := by rw [hwN]; exact mAt_new _ _ _ _ _
        have HPLwN5 : Hid (w0.heap.size ≤ wM1.heap.size) := hS.size
        rw [← hwN] at hSn ⊢
        clear hS
        have hS := hSn
        clear hSn hwN
        refine MixH.one [false, false, false, true] 5 3 _ rfl rfl (by kernel_rfl) (by kernel_rfl) (fun K hK => ?_)
        simp only [Mix.pick]
        go_wp2_with fail
        refine Calls.mono (HQ5.out wN5 _ hS) ?_
        rintro e wC6 ⟨rfl, hbC⟩
        replace hS := bthen hS hbC
        have HPwC6 : Hid (MAt wC6 wM1.heap.size m8z none 0 0) := HPwN5.out.below hbC
        clear hbC
        go_wp2
        refine ⟨rfl, hK _ _ hS ?_⟩
        clear hK K
        refine MixH.takes [false, false, false, false, true] 4 (by kernel_rfl) (by kernel_rfl) (by decide) (by kernel_rfl) hS (fun K hK => ?_)
        simp only [Mix.pick]
        repeat (go_big_quiet_step (fail))
        refine wpQuiet_nil (hK _ ?_)
        clear hK K
        refine MixH.takes [false, false, false, false, false, true, true] 2 (by kernel_rfl) (by kernel_rfl) (by decide) (by kernel_rfl) hS (fun K hK => ?_)
        simp only [Mix.pick]
        repeat (go_big_quiet_step (fail))
        refine wpQuiet_nil (hK _ ?_)
        clear hK K
        refine MixH.one [false, false, false, false, false, false, false, false, true] 1 8 _ rfl rfl (by kernel_rfl) (by kernel_rfl) (fun K hK => ?_)
        simp only [Mix.pick]
        go_wp2_with (first | (refine wpList_store_m8 (.tmp 5) (.tmp 25) rfl rfl (wM1.heap.size) m8z m8z none none 0 0 0 0 rfl rfl HPwC6.out rfl ?_))
        intro wE7 hRE kE
        replace hS := hS.trans (kE.below (fun q e => by have e' : q = wM1.heap.size := e; have := HPLwN5.out; omega) hS.size)
        clear hRE kE
        go_wp2
        refine ⟨rfl, hK _ _ hS ?_⟩
        clear hK K
        refine MixH.takes [false, false, false, false, false, false, false, false, false, true] 0 (by kernel_rfl) (by kernel_rfl) (by decide) (by kernel_rfl) hS (fun K hK => ?_)
        simp only [Mix.pick]
        repeat (go_big_quiet_step (fail))
        refine wpQuiet_nil (hK _ ?_)
        clear hK K
        refine MixH.done (by kernel_rfl) ?_
        go_wp2
        go_meet
        exact ⟨rfl, hS⟩
    · simp only [Mix.pick]
      have hSn := bthen hS ((Below.refl wA.heap.size wA).alloc (Nat.le_refl _) (.cells (mC m8z none 0 0) 27))
      go_wp2_with (first | (refine wpList_alloc_m8 rfl rfl ?_))
      go_wp2
      refine ⟨rfl, hK _ _ hSn ?_⟩
      clear hK K
      obtain ⟨wN8, hwN⟩ : ∃ z, z = wA.alloc (.cells (mC m8z none 0 0) 27) := ⟨_, rfl⟩
      have HPwN8 : Hid (MAt wN8 wA.heap.size m8z none 0 0) := by rw [hwN]; exact mAt_new _ _ _ _ _
      have HPLwN8 : Hid (w0.heap.size ≤ wA.heap.size) := hS.size
      rw [← hwN] at hSn ⊢
      clear hS
      have hS := hSn
      clear hSn hwN
      refine MixH.one [false, false, true] 6 2 _ rfl rfl (by kernel_rfl) (by kernel_rfl) (fun K hK => ?_)
      simp only [Mix.pick]
      go_wp2_with (first | (refine wpList_make_z rfl _ _ rfl 65536 (by omega) 65536 (by omega) rfl rfl ?_))
      intro wM9 hbM
      replace hS := bthen hS hbM
      have HPwM9 : Hid (MAt wM9 wA.heap.size m8z none 0 0) := HPwN8.out.below hbM
      clear hbM
      go_wp2
      refine ⟨rfl, hK _ _ hS ?_⟩
      clear hK K
      refine MixH.one [false, false, false, true] 5 3 _ rfl rfl (by kernel_rfl) (by kernel_rfl) (fun K hK => ?_)
      simp only [Mix.pick]
      go_wp2_with fail
      refine Calls.mono (HQ5.out wM9 _ hS) ?_
      rintro e wC10 ⟨rfl, hbC⟩
      replace hS := bthen hS hbC
      have HPwC10 : Hid (MAt wC10 wA.heap.size m8z none 0 0) := HPwM9.out.below hbC
      clear hbC
      go_wp2
      refine ⟨rfl, hK _ _ hS ?_⟩
      clear hK K
      refine MixH.takes [false, false, false, false, true] 4 (by kernel_rfl) (by kernel_rfl) (by decide) (by kernel_rfl) hS (fun K hK => ?_)
      simp only [Mix.pick]
      repeat (go_big_quiet_step (fail))
      refine wpQuiet_nil (hK _ ?_)
      clear hK K
      refine MixH.takes [false, false, false, false, false, true, true] 2 (by kernel_rfl) (by kernel_rfl) (by decide) (by kernel_rfl) hS (fun K hK => ?_)
      simp only [Mix.pick]
      repeat (go_big_quiet_step (fail))
      refine wpQuiet_nil (hK _ ?_)
      clear hK K
      refine MixH.one [false, false, false, false, false, false, false, false, true] 1 8 _ rfl rfl (by kernel_rfl) (by kernel_rfl) (fun K hK => ?_)
      simp only [Mix.pick]
      go_wp2_with (first | (refine wpList_store_m8 (.tmp 5) (.tmp 25) rfl rfl (wA.heap.size) m8z m8z none none 0 0 0 0 rfl rfl HPwC10.out rfl ?_))
      intro wE11 hRE kE
      replace hS := hS.trans (kE.below (fun q e => by have e' : q = wA.heap.size := e; have := HPLwN8.out; omega) hS.size)
      clear hRE kE
      go_wp2
      refine ⟨rfl, hK _ _ hS ?_⟩
      clear hK K
      refine MixH.takes [false, false, false, false, false, false, false, false, false, true] 0 (by kernel_rfl) (by kernel_rfl) (by decide) (by kernel_rfl) hS (fun K hK => ?_)
      simp only [Mix.pick]
      repeat (go_big_quiet_step (fail))
      refine wpQuiet_nil (hK _ ?_)
      clear hK K
      refine MixH.done (by kernel_rfl) ?_
      go_wp2
      go_meet
      exact ⟨rfl, hS⟩
  case rest =>
  obtain ⟨rfl, hc5⟩ := hcut
  have HIP1 : Hid (Boxed wc B 0 (fun _ => 0)) := HIP0.out.old hc5
  have HM1 : Hid (MAt wc M2 m5 none 0 0) := HM0.out.below hc5
  have HN1 : Hid (MAt wc P3 ⟨4, 256, 0, 0, dd⟩ N3 65536 65536) := HN0.out.below hc5
  have HND1 : Hid (NdAt wc P4 ndD) := HND0.out.below hc5
  have bel1 := bthen bel0 hc5
  obtain ⟨w9, hw9⟩ : ∃ w9, w9 = wc := ⟨_, rfl⟩
  rw [← hw9] at HIP1 HM1 HN1 HND1 bel1 ⊢
  clear hw9 hc5 HIP0 HM0 HN0 HND0 bel0 HQ5
  obtain ⟨w0, hw0⟩ : ∃ w0, w0 = w9 := ⟨_, rfl⟩
  rw [← hw0] at HIP1 HM1 HN1 HND1 bel1 ⊢
  have HIP0 : Hid (Boxed w0 B 0 (fun _ => 0)) := HIP1.out
  clear hw0
  go_upto_region 6 with fail
  go_cut [8] (fun s8 wx => s8 = .int .i64 2 ∧ Below w0.heap.size w0 wx)
  case first =>
    refine MixH.start (fun A => Below w0.heap.size w0 A) (by kernel_rfl) ?_
    obtain ⟨wA, hwA⟩ : ∃ wA, wA = w0.drew := ⟨_, rfl⟩
    have hS : Below w0.heap.size w0 wA := by rw [hwA]; exact (Below.refl _ _).drew
    rw [← hwA]
    clear hwA
    refine MixH.take 9 0 _ (.agg (ipCells 0 (fun _ => 0))) rfl (by kernel_rfl) (by kernel_rfl) (by kernel_rfl) (by kernel_rfl) (yields_ip (.tmp 1) rfl B 0 (fun _ => 0) rfl rfl (fun A hA => HIP0.out.old hA)) hS (fun a' ha => ?_)
    simp only [Act.put, List.setIfInBounds_toArray, List.set_cons_succ, List.set_cons_zero] at ha
    subst ha
    refine MixH.take 8 1 _ (.agg (ipCells 0 (fun _ => 0))) rfl (by kernel_rfl) (by kernel_rfl) (by kernel_rfl) (by kernel_rfl) (yields_ip (.tmp 1) rfl B 0 (fun _ => 0) rfl rfl (fun A hA => HIP0.out.old hA)) hS (fun a' ha => ?_)
    simp only [Act.put, List.setIfInBounds_toArray, List.set_cons_succ, List.set_cons_zero] at ha
    subst ha
    refine MixH.pair [false, false, true] [false, false, false, false, false, false, false, true] 7 2 7 _ _ rfl rfl rfl rfl (by kernel_rfl) (by kernel_rfl) (fun K hK => ?_) (fun K hK => ?_)
    · simp only [Mix.pick]
      go_wp2_with (first | (refine wpList_make_z rfl _ _ rfl 65536 (by omega) 65536 (by omega) rfl rfl ?_))
      intro wM1 hbM
      replace hS := bthen hS hbM
      clear hbM
      go_wp2
      refine ⟨rfl, hK _ _ hS ?_⟩
      clear hK K
      refine MixH.pair [false, false, false, true] [false, false, false, false, false, false, false, true] 6 3 7 _ _ rfl rfl rfl rfl (by kernel_rfl) (by kernel_rfl) (fun K hK => ?_) (fun K hK => ?_)
      · simp only [Mix.pick]
        go_wp2_with fail
        refine Calls.mono (HQR.out wM1 _) ?_
        rintro e wC2 ⟨rfl, hbC⟩
        replace hS := bthen hS hbC
        clear hbC
        go_wp2
        refine ⟨rfl, hK _ _ hS ?_⟩
        clear hK K
        refine MixH.takes [false, false, false, false, true] 5 (by kernel_rfl) (by kernel_rfl) (by decide) (by kernel_rfl) hS (fun K hK => ?_)
        simp only [Mix.pick]
        repeat (go_big_quiet_step (fail))
        refine wpQuiet_nil (hK _ ?_)
        clear hK K
        refine MixH.takes [false, false, false, false, false, true, true] 3 (by kernel_rfl) (by kernel_rfl) (by decide) (by kernel_rfl) hS (fun K hK => ?_)
        simp only [Mix.pick]
        repeat (go_big_quiet_step (fail))
        refine wpQuiet_nil (hK _ ?_)
        clear hK K
        refine MixH.one [false, false, false, false, false, false, false, true] 2 7 _ rfl rfl (by kernel_rfl) (by kernel_rfl) (fun K hK => ?_)
        simp only [Mix.pick]
        have hSn := bthen hS ((Below.refl wC2.heap.size wC2).alloc (Nat.le_refl _) (.cells (mC m8z none 0 0) 27))
        go_wp2_with (first | (refine wpList_alloc_m8 rfl rfl ?_))
        go_wp2
        refine ⟨rfl, hK _ _ hSn ?_⟩
        clear hK K
        obtain ⟨wN3, hwN⟩ : ∃ z, z = wC2.alloc (.cells (mC m8z none 0 0) 27) := ⟨_, rfl⟩
        have HPwN3 : Hid (MAt wN3 wC2.heap.size m8z none 0 0) := by rw [hwN]; exact mAt_new _ _ _ _ _
        have HPLwN3 : Hid (w0.heap.size ≤ wC2.heap.size) := hS.size
        rw [← hwN] at hSn ⊢
        clear hS
        have hS := hSn
        clear hSn hwN
        refine MixH.one [false, false, false, false, false, false, false, false, true] 1 8 _ rfl rfl (by kernel_rfl) (by kernel_rfl) (fun K hK => ?_)
        simp only [Mix.pick]
        go_wp2_with (first | (refine wpList_store_m8 (.tmp 7) (.tmp 32) rfl rfl (wC2.heap.size) m8z m8z none none 0 0 0 0 rfl rfl HPwN3.out rfl ?_))
        intro wE4 hRE kE
        replace hS := hS.trans (kE.below (fun q e => by have e' : q = wC2.heap.size := e; have := HPLwN3.out; omega) hS.size)
        clear hRE kE
        go_wp2
        refine ⟨rfl, hK _ _ hS ?_⟩
        clear hK K
        refine MixH.takes [false, false, false, false, false, false, false, false, false, true] 0 (by kernel_rfl) (by kernel_rfl) (by decide) (by kernel_rfl) hS (fun K hK => ?_)
        simp only [Mix.pick]
        repeat (go_big_quiet_step (fail))
        refine wpQuiet_nil (hK _ ?_)
        clear hK K
        refine MixH.done (by kernel_rfl) ?_
        go_wp2
        go_meet
        exact ⟨rfl, hS⟩
      · simp only [Mix.pick]
        have hSn := bthen hS ((Below.refl wM1.heap.size wM1).alloc (Nat.le_refl _) (.cells (mC m8z none 0 0) 27))
        go_wp2_with (first | (refine wpList_alloc_m8 rfl rfl ?_))
        go_wp2
        refine ⟨rfl, hK _ _ hSn ?_⟩
        clear hK K
        obtain ⟨wN5, hwN⟩ : ∃ z, z = wM1.alloc (.cells (mC m8z none 0 0) 27) := ⟨_, rfl⟩
        have HPwN5 : Hid (MAt wN5 wM1.heap.size m8z none 0 0) := by rw [hwN]; exact mAt_new _ _ _ _ _
        have HPLwN5 : Hid (w0.heap.size ≤ wM1.heap.size) := hS.size
        rw [← hwN] at hSn ⊢
        clear hS
        have hS := hSn
        clear hSn hwN
        refine MixH.one [false, false, false, true] 5 3 _ rfl rfl (by kernel_rfl) (by kernel_rfl) (fun K hK => ?_)
        simp only [Mix.pick]
        go_wp2_with fail
        refine Calls.mono (HQR.out wN5 _) ?_
        rintro e wC6 ⟨rfl, hbC⟩
        replace hS := bthen hS hbC
        have HPwC6 : Hid (MAt wC6 wM1.heap.size m8z none 0 0) := HPwN5.out.below hbC
        clear hbC
        go_wp2
        refine ⟨rfl, hK _ _ hS ?_⟩
        clear hK K
        refine MixH.takes [false, false, false, false, true] 4 (by kernel_rfl) (by kernel_rfl) (by decide) (by kernel_rfl) hS (fun K hK => ?_)
        simp only [Mix.pick]
        repeat (go_big_quiet_step (fail))
        refine wpQuiet_nil (hK _ ?_)
        clear hK K
        refine MixH.takes [false, false, false, false, false, true, true] 2 (by kernel_rfl) (by kernel_rfl) (by decide) (by kernel_rfl) hS (fun K hK => ?_)
        simp only [Mix.pick]
        repeat (go_big_quiet_step (fail))
        refine wpQuiet_nil (hK _ ?_)
        clear hK K
        refine MixH.one [false, false, false, false, false, false, false, false, true] 1 8 _ rfl rfl (by kernel_rfl) (by kernel_rfl) (fun K hK => ?_)
        simp only [Mix.pick]
        go_wp2_with (first | (refine wpList_store_m8 (.tmp 7) (.tmp 32) rfl rfl (wM1.heap.size) m8z m8z none none 0 0 0 0 rfl rfl HPwC6.out rfl ?_))
        intro wE7 hRE kE
        replace hS := hS.trans (kE.below (fun q e => by have e' : q = wM1.heap.size := e; have := HPLwN5.out; omega) hS.size)
        clear hRE kE
        go_wp2
        refine ⟨rfl, hK _ _ hS ?_⟩
        clear hK K
        refine MixH.takes [false, false, false, false, false, false, false, false, false, true] 0 (by kernel_rfl) (by kernel_rfl) (by decide) (by kernel_rfl) hS (fun K hK => ?_)
        simp only [Mix.pick]
        repeat (go_big_quiet_step (fail))
        refine wpQuiet_nil (hK _ ?_)
        clear hK K
        refine MixH.done (by kernel_rfl) ?_
        go_wp2
        go_meet
        exact ⟨rfl, hS⟩
    · simp only [Mix.pick]
      have hSn := bthen hS ((Below.refl wA.heap.size wA).alloc (Nat.le_refl _) (.cells (mC m8z none 0 0) 27))
      go_wp2_with (first | (refine wpList_alloc_m8 rfl rfl ?_))
      go_wp2
      refine ⟨rfl, hK _ _ hSn ?_⟩
      clear hK K
      obtain ⟨wN8, hwN⟩ : ∃ z, z = wA.alloc (.cells (mC m8z none 0 0) 27) := ⟨_, rfl⟩
      have HPwN8 : Hid (MAt wN8 wA.heap.size m8z none 0 0) := by rw [hwN]; exact mAt_new _ _ _ _ _
      have HPLwN8 : Hid (w0.heap.size ≤ wA.heap.size) := hS.size
      rw [← hwN] at hSn ⊢
      clear hS
      have hS := hSn
      clear hSn hwN
      refine MixH.one [false, false, true] 6 2 _ rfl rfl (by kernel_rfl) (by kernel_rfl) (fun K hK => ?_)
      simp only [Mix.pick]
      go_wp2_with (first | (refine wpList_make_z rfl _ _ rfl 65536 (by omega) 65536 (by omega) rfl rfl ?_))
      intro wM9 hbM
      replace hS := bthen hS hbM
      have HPwM9 : Hid (MAt wM9 wA.heap.size m8z none 0 0) := HPwN8.out.below hbM
      clear hbM
      go_wp2
      refine ⟨rfl, hK _ _ hS ?_⟩
      clear hK K
      refine MixH.one [false, false, false, true] 5 3 _ rfl rfl (by kernel_rfl) (by kernel_rfl) (fun K hK => ?_)
      simp only [Mix.pick]
      go_wp2_with fail
      refine Calls.mono (HQR.out wM9 _) ?_
      rintro e wC10 ⟨rfl, hbC⟩
      replace hS := bthen hS hbC
      have HPwC10 : Hid (MAt wC10 wA.heap.size m8z none 0 0) := HPwM9.out.below hbC
      clear hbC
      go_wp2
      refine ⟨rfl, hK _ _ hS ?_⟩
      clear hK K
      refine MixH.takes [false, false, false, false, true] 4 (by kernel_rfl) (by kernel_rfl) (by decide) (by kernel_rfl) hS (fun K hK => ?_)
      simp only [Mix.pick]
      repeat (go_big_quiet_step (fail))
      refine wpQuiet_nil (hK _ ?_)
      clear hK K
      refine MixH.takes [false, false, false, false, false, true, true] 2 (by kernel_rfl) (by kernel_rfl) (by decide) (by kernel_rfl) hS (fun K hK => ?_)
      simp only [Mix.pick]
      repeat (go_big_quiet_step (fail))
      refine wpQuiet_nil (hK _ ?_)
      clear hK K
      refine MixH.one [false, false, false, false, false, false, false, false, true] 1 8 _ rfl rfl (by kernel_rfl) (by kernel_rfl) (fun K hK => ?_)
      simp only [Mix.pick]
      go_wp2_with (first | (refine wpList_store_m8 (.tmp 7) (.tmp 32) rfl rfl (wA.heap.size) m8z m8z none none 0 0 0 0 rfl rfl HPwC10.out rfl ?_))
      intro wE11 hRE kE
      replace hS := hS.trans (kE.below (fun q e => by have e' : q = wA.heap.size := e; have := HPLwN8.out; omega) hS.size)
      clear hRE kE
      go_wp2
      refine ⟨rfl, hK _ _ hS ?_⟩
      clear hK K
      refine MixH.takes [false, false, false, false, false, false, false, false, false, true] 0 (by kernel_rfl) (by kernel_rfl) (by decide) (by kernel_rfl) hS (fun K hK => ?_)
      simp only [Mix.pick]
      repeat (go_big_quiet_step (fail))
      refine wpQuiet_nil (hK _ ?_)
      clear hK K
      refine MixH.done (by kernel_rfl) ?_
      go_wp2
      go_meet
      exact ⟨rfl, hS⟩
  case rest =>
  obtain ⟨rfl, hc6⟩ := hcut
  have HM2 : Hid (MAt wc M2 m5 none 0 0) := HM1.out.below hc6
  have HN2 : Hid (MAt wc P3 ⟨4, 256, 0, 0, dd⟩ N3 65536 65536) := HN1.out.below hc6
  have HND2 : Hid (NdAt wc P4 ndD) := HND1.out.below hc6
  have bel2 := bthen bel1 hc6
  clear hc6 HIP0 HIP1 HM1 HN1 HND1 bel1
  have QD : Hid _ := icPutND_d wc (HDIS.out wc bel2)
  go_wp2_with (first | (refine wpList_load_nd (.tmp 4) rfl P4 ndD ndD_size rfl HND2.out rfl ?_))
  refine Calls.mono QD.out ?_
  rintro e w3 ⟨rfl, hb3⟩
  have bel3 := bthen bel2 hb3
  have HM3 : Hid (MAt w3 M2 m5 none 0 0) := HM2.out.below hb3
  have HN3 : Hid (MAt w3 P3 ⟨4, 256, 0, 0, dd⟩ N3 65536 65536) := HN2.out.below hb3
  have HND3 : Hid (NdAt w3 P4 ndD) := HND2.out.below hb3
  clear hb3 QD HM2 HN2 HND2 bel2
  go_upto_region 8 with (first | (refine wpList_alloc_m8 rfl rfl ?_) | (refine wpList_store_m8 (.tmp 9) (.tmp 37) rfl rfl w3.heap.size m8z m8z none none 0 0 0 0 rfl rfl (mAt_new _ _ _ _ _) rfl ?_))
  intro w4 hR4 k4
  have hb4 : Below w3.heap.size w3 w4 := ((Below.refl _ _).alloc (Nat.le_refl _) _).trans (k4.below (fun q e => by have e' : q = w3.heap.size := e; omega) (by simp))
  have bel4 := bthen bel3 hb4
  have HM4 : Hid (MAt w4 M2 m5 none 0 0) := HM3.out.below hb4
  have HN4 : Hid (MAt w4 P3 ⟨4, 256, 0, 0, dd⟩ N3 65536 65536) := HN3.out.below hb4
  have HND4 : Hid (NdAt w4 P4 ndD) := HND3.out.below hb4
  clear hR4 k4 hb4 HM3 HN3 HND3 bel3
  have QR : Hid _ := rPutND_d w4
  go_wp2_with (first | (refine wpList_load_nd (.tmp 4) rfl P4 ndD ndD_size rfl HND4.out rfl ?_))
  refine Calls.mono QR.out ?_
  rintro e w5 ⟨rfl, hb5⟩
  have bel5 := bthen bel4 hb5
  have HM5 : Hid (MAt w5 M2 m5 none 0 0) := HM4.out.below hb5
  have HN5 : Hid (MAt w5 P3 ⟨4, 256, 0, 0, dd⟩ N3 65536 65536) := HN4.out.below hb5
  clear hb5 QR HM4 HN4 HND4 bel4
  go_upto_region 9 with (first | (refine wpList_alloc_m8 rfl rfl ?_) | (refine wpList_store_m8 (.tmp 11) (.tmp 42) rfl rfl w5.heap.size m8z m8z none none 0 0 0 0 rfl rfl (mAt_new _ _ _ _ _) rfl ?_))
  intro w6 hR6 k6
  have hb6 : Below w5.heap.size w5 w6 := ((Below.refl _ _).alloc (Nat.le_refl _) _).trans (k6.below (fun q e => by have e' : q = w5.heap.size := e; omega) (by simp))
  have bel6 := bthen bel5 hb6
  have HM6 : Hid (MAt w6 M2 m5 none 0 0) := HM5.out.below hb6
  have HN6 : Hid (MAt w6 P3 ⟨4, 256, 0, 0, dd⟩ N3 65536 65536) := HN5.out.below hb6
  clear hR6 k6 hb6 HM5 HN5 bel5
  go_upto_region 9 with fail
  have Q5a : Hid (∀ W, Calls Tryd.prog 10 #[.agg (mC m5 none 0 0)] W fun e w' => e = .returned (.int .i64 1) ∧ Below W.heap.size W w') := fun W => by
    have h := icCheck_any m5 none 0 0 W rfl (by omega)
    rw [m5_chk] at h
    exact h
  have Q5b : Hid (∀ W, Calls Tryd.prog 16 #[.agg (mC m5 none 0 0)] W fun e w' => e = .returned (.int .i64 1) ∧ Below W.heap.size W w') := fun W => by
    have h := rCheck_any m5 none 0 0 W rfl
    rw [m5_chk] at h
    exact h
  have e82 : I8.chk ⟨4, 256, 0, 0, dd⟩ = 82 := by
    unfold I8.chk I8.okF I8.isV I8.inB
    simp
  have Q6a : Hid (∀ W, Calls Tryd.prog 10 #[.agg (mC ⟨4, 256, 0, 0, dd⟩ N3 65536 65536)] W fun e w' => e = .returned (.int .i64 82) ∧ Below W.heap.size W w') := fun W => by
    have h := icCheck_any ⟨4, 256, 0, 0, dd⟩ N3 65536 65536 W HDL.out (by omega)
    rw [e82] at h
    exact h
  have Q6b : Hid (∀ W, Calls Tryd.prog 16 #[.agg (mC ⟨4, 256, 0, 0, dd⟩ N3 65536 65536)] W fun e w' => e = .returned (.int .i64 82) ∧ Below W.heap.size W w') := fun W => by
    have h := rCheck_any ⟨4, 256, 0, 0, dd⟩ N3 65536 65536 W HDL.out
    rw [e82] at h
    exact h
  clear e82
  refine MixH.start (fun A => Below w6.heap.size w6 A) (by kernel_rfl) ?_
  obtain ⟨wA, hwA⟩ : ∃ wA, wA = w6.drew := ⟨_, rfl⟩
  have hS : Below w6.heap.size w6 wA := by rw [hwA]; exact (Below.refl _ _).drew
  rw [← hwA]
  clear hwA
  refine MixH.take 22 0 _ (.agg (mC m5 none 0 0)) rfl (by kernel_rfl) (by kernel_rfl) (by kernel_rfl) (by kernel_rfl) (yields_m8 (.tmp 2) rfl M2 m5 none 0 0 rfl rfl (fun A hA => HM6.out.below hA)) hS (fun a' ha => ?_)
  simp only [Act.put, List.setIfInBounds_toArray, List.set_cons_succ, List.set_cons_zero] at ha
  subst ha
  refine MixH.take 21 2 _ (.agg (mC m5 none 0 0)) rfl (by kernel_rfl) (by kernel_rfl) (by kernel_rfl) (by kernel_rfl) (yields_m8 (.tmp 2) rfl M2 m5 none 0 0 rfl rfl (fun A hA => HM6.out.below hA)) hS (fun a' ha => ?_)
  simp only [Act.put, List.setIfInBounds_toArray, List.set_cons_succ, List.set_cons_zero] at ha
  subst ha
  refine MixH.one [false, true] 20 1 _ rfl rfl (by kernel_rfl) (by kernel_rfl) (fun K hK => ?_)
  simp only [Mix.pick]
  go_wp2_with fail
  refine Calls.mono (Q5a.out wA) ?_
  rintro e x1 ⟨rfl, hb1⟩
  replace hS := bthen hS hb1
  clear hb1
  go_wp2
  refine ⟨rfl, hK _ _ hS ?_⟩
  clear hK K
  refine MixH.one [false, false, false, true] 19 3 _ rfl rfl (by kernel_rfl) (by kernel_rfl) (fun K hK => ?_)
  simp only [Mix.pick]
  go_wp2_with fail
  refine Calls.mono (Q5b.out x1) ?_
  rintro e x2 ⟨rfl, hb1⟩
  replace hS := bthen hS hb1
  clear hb1
  go_wp2
  refine ⟨rfl, hK _ _ hS ?_⟩
  clear hK K
  refine MixH.takes [false, false, false, false, true] 18 (by kernel_rfl) (by kernel_rfl) (by decide) (by kernel_rfl) hS (fun K hK => ?_)
  simp only [Mix.pick]
  repeat (go_big_quiet_step (fail))
  refine wpQuiet_nil (hK _ ?_)
  clear hK K
  refine MixH.takes [false, false, false, false, false, true] 17 (by kernel_rfl) (by kernel_rfl) (by decide) (by kernel_rfl) hS (fun K hK => ?_)
  simp only [Mix.pick]
  repeat (go_big_quiet_step (fail))
  refine wpQuiet_nil (hK _ ?_)
  clear hK K
  refine MixH.take 16 6 _ (.agg (mC ⟨4, 256, 0, 0, dd⟩ N3 65536 65536)) rfl (by kernel_rfl) (by kernel_rfl) (by kernel_rfl) (by kernel_rfl) (yields_m8 (.tmp 3) rfl P3 ⟨4, 256, 0, 0, dd⟩ N3 65536 65536 rfl rfl (fun A hA => HN6.out.below hA)) hS (fun a' ha => ?_)
  simp only [Act.put, List.setIfInBounds_toArray, List.set_cons_succ, List.set_cons_zero] at ha
  subst ha
  refine MixH.take 15 8 _ (.agg (mC ⟨4, 256, 0, 0, dd⟩ N3 65536 65536)) rfl (by kernel_rfl) (by kernel_rfl) (by kernel_rfl) (by kernel_rfl) (yields_m8 (.tmp 3) rfl P3 ⟨4, 256, 0, 0, dd⟩ N3 65536 65536 rfl rfl (fun A hA => HN6.out.below hA)) hS (fun a' ha => ?_)
  simp only [Act.put, List.setIfInBounds_toArray, List.set_cons_succ, List.set_cons_zero] at ha
  subst ha
  refine MixH.one [false, false, false, false, false, false, false, true] 14 7 _ rfl rfl (by kernel_rfl) (by kernel_rfl) (fun K hK => ?_)
  simp only [Mix.pick]
  go_wp2_with fail
  refine Calls.mono (Q6a.out x2) ?_
  rintro e x3 ⟨rfl, hb1⟩
  replace hS := bthen hS hb1
  clear hb1
  go_wp2
  refine ⟨rfl, hK _ _ hS ?_⟩
  clear hK K
  refine MixH.one [false, false, false, false, false, false, false, false, false, true] 13 9 _ rfl rfl (by kernel_rfl) (by kernel_rfl) (fun K hK => ?_)
  simp only [Mix.pick]
  go_wp2_with fail
  refine Calls.mono (Q6b.out x3) ?_
  rintro e x4 ⟨rfl, hb1⟩
  replace hS := bthen hS hb1
  clear hb1
  go_wp2
  refine ⟨rfl, hK _ _ hS ?_⟩
  clear hK K
  refine MixH.takes [false, false, false, false, false, false, false, false, false, false, true] 12 (by kernel_rfl) (by kernel_rfl) (by decide) (by kernel_rfl) hS (fun K hK => ?_)
  simp only [Mix.pick]
  repeat (go_big_quiet_step (fail))
  refine wpQuiet_nil (hK _ ?_)
  clear hK K
  refine MixH.takes [false, false, false, false, false, false, false, false, false, false, false, true] 11 (by kernel_rfl) (by kernel_rfl) (by decide) (by kernel_rfl) hS (fun K hK => ?_)
  simp only [Mix.pick]
  repeat (go_big_quiet_step (fail))
  refine wpQuiet_nil (hK _ ?_)
  clear hK K
  refine MixH.takes [false, false, false, false, false, false, false, false, false, false, false, false, true] 10 (by kernel_rfl) (by kernel_rfl) (by decide) (by kernel_rfl) hS (fun K hK => ?_)
  simp only [Mix.pick]
  repeat (go_big_quiet_step (fail))
  refine wpQuiet_nil (hK _ ?_)
  clear hK K
  refine MixH.takes [false, false, false, false, false, false, false, false, false, false, false, false, false, true, true] 8 (by kernel_rfl) (by kernel_rfl) (by decide) (by kernel_rfl) hS (fun K hK => ?_)
  simp only [Mix.pick]
  repeat (go_big_quiet_step (fail))
  refine wpQuiet_nil (hK _ ?_)
  clear hK K
  refine MixH.takes [false, false, false, false, false, false, false, false, false, false, false, false, false, false, false, true] 7 (by kernel_rfl) (by kernel_rfl) (by decide) (by kernel_rfl) hS (fun K hK => ?_)
  simp only [Mix.pick]
  repeat (go_big_quiet_step (fail))
  refine wpQuiet_nil (hK _ ?_)
  clear hK K
  refine MixH.takes [false, false, false, false, false, false, false, false, false, false, false, false, false, false, false, false, true] 6 (by kernel_rfl) (by kernel_rfl) (by decide) (by kernel_rfl) hS (fun K hK => ?_)
  simp only [Mix.pick]
  repeat (go_big_quiet_step (fail))
  refine wpQuiet_nil (hK _ ?_)
  clear hK K
  refine MixH.takes [false, false, false, false, false, false, false, false, false, false, false, false, false, false, false, false, false, true] 5 (by kernel_rfl) (by kernel_rfl) (by decide) (by kernel_rfl) hS (fun K hK => ?_)
  simp only [Mix.pick]
  repeat (go_big_quiet_step (fail))
  refine wpQuiet_nil (hK _ ?_)
  clear hK K
  refine MixH.takes [false, false, false, false, false, false, false, false, false, false, false, false, false, false, false, false, false, false, true, true] 3 (by kernel_rfl) (by kernel_rfl) (by decide) (by kernel_rfl) hS (fun K hK => ?_)
  simp only [Mix.pick]
  repeat (go_big_quiet_step (fail))
  refine wpQuiet_nil (hK _ ?_)
  clear hK K
  refine MixH.takes [false, false, false, false, false, false, false, false, false, false, false, false, false, false, false, false, false, false, false, false, true] 2 (by kernel_rfl) (by kernel_rfl) (by decide) (by kernel_rfl) hS (fun K hK => ?_)
  simp only [Mix.pick]
  repeat (go_big_quiet_step (fail))
  refine wpQuiet_nil (hK _ ?_)
  clear hK K
  refine MixH.takes [false, false, false, false, false, false, false, false, false, false, false, false, false, false, false, false, false, false, false, false, false, true] 1 (by kernel_rfl) (by kernel_rfl) (by decide) (by kernel_rfl) hS (fun K hK => ?_)
  simp only [Mix.pick]
  repeat (go_big_quiet_step (fail))
  refine wpQuiet_nil (hK _ ?_)
  clear hK K
  refine MixH.takes [false, false, false, false, false, false, false, false, false, false, false, false, false, false, false, false, false, false, false, false, false, false, true] 0 (by kernel_rfl) (by kernel_rfl) (by decide) (by kernel_rfl) hS (fun K hK => ?_)
  simp only [Mix.pick]
  repeat (go_big_quiet_step (fail))
  refine wpQuiet_nil (hK _ ?_)
  clear hK K
  refine MixH.done (by kernel_rfl) ?_
  have HF : Hid (Below w.heap.size w x4) := bthen bel6 hS
  clear hS
  go_wp2
  go_ret
  exact ⟨rfl, HF.out⟩
end Go.Proofs.YtkhalknpfikghaaDoor
