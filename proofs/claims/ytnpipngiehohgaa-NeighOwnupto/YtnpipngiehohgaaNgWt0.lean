/-
  Layer 15: begin, wait.
-/
import Derived.Test.YtnpipngiehohgaaNgAdd
namespace Go.Proofs.Ytnpipngiehohgaa
open Go.RowKit Go.Maps

theorem Try.infoZ : ∃ i z, Try.prog.info? 3 = some i ∧ i.zero = some z ∧ i.size = 1 ∧ z.cells.size = 1 ∧ i.bytes ≤ 1000 := by
  have h : (Try.prog.info? 3).any (fun i => i.zero.any (fun z => i.size == 1 && z.cells.size == 1 && decide (i.bytes ≤ 1000))) = true := by kernel_rfl
  cases hi : Try.prog.info? 3 with
  | none => rw [hi] at h; simp at h
  | some i =>
    rw [hi] at h
    cases hz : i.zero with
    | none => rw [Option.any_some, hz] at h; simp at h
    | some z =>
      rw [Option.any_some, hz, Option.any_some] at h
      simp only [Bool.and_eq_true, beq_iff_eq, decide_eq_true_eq] at h
      exact ⟨i, z, rfl, hz, h.1.1, h.1.2, h.2⟩
theorem run_bs1i (p : Int) (w : World) : (Instr.buildSlice 39 1 #[(0, .int .i64 p)]).run Try.prog w = .ok (.slice (some ⟨w.heap.size, 0, none⟩) 1 1) (w.alloc (.cells #[.int .i64 p] 3)) := by kernel_rfl
theorem wpList_bs1i {ops : Array Oper} {rest : List Oper} {o : Oper} {a : Act} {w : World} {Q : Exit → Act → World → Prop} (x : Operand) (ho : o.op = .buildSlice 39 1 #[(0, x)]) (p : Int) (hx : a.eval x = .int .i64 p) (hw : Region.wanted o (yielded ops a.tmps) = true)
    (h : wpList Try.prog ops Q rest (a.put o.dst (.slice (some ⟨w.heap.size, 0, none⟩) 1 1)) (w.alloc (.cells #[.int .i64 p] 3))) : wpList Try.prog ops Q (o :: rest) a w := by
  refine wpList_step fun K hK => ?_
  rw [if_pos hw]
  unfold Oper.wp execOp
  simp only [ho, Sem.run_bind, List.map_toArray, List.map_cons, List.map_nil, hx, run_bs1i p w, Result.andThen_ok]
  exact hK _ _ h
set_option maxRecDepth 100000 in
/-- append of one number that lies in a row of its own -/
theorem wpList_app1i {ops : Array Oper} {rest : List Oper} {o : Oper} {a : Act} {w : World} {Q : Exit → Act → World → Prop} (hgd : o.guard = none) (s x : Operand) (ho : o.op = .call { callee := .builtin .append, args := #[s, x], argTypes := #[39, 39] })
    (v : Value) (L : List Int) (hs : a.eval s = v) (hown : LnAt w v L) (B : Nat) (p : Int) (hx : a.eval x = .slice (some ⟨B, 0, none⟩) 1 1) (hB : w.cell? ⟨B, 0, none⟩ = some (.int .i64 p)) (hL : L.length ≤ 100000)
    (h : ∀ v' w', LnAt w' v' (L ++ [p]) → w.grownBy w' v.ownBlock → (∀ g, v'.ownBlock = some g → v.ownBlock = some g ∨ w.heap.size ≤ g) → wpList Try.prog ops Q rest (a.put o.dst v') w') : wpList Try.prog ops Q (o :: rest) a w := by
  obtain ⟨i, z, hi, hz0, hz1, hz2, hz3⟩ := Try.infoZ
  refine append_split hgd s x 39 ho 0 3 i z i.bytes Try.underlying39 hi hz0 hz1 rfl hz2 v L.length (L.map (Value.int .i64)) hs hown ⟨B, 0, none⟩ 1 1 [.int .i64 p] hx rfl ?_ (by simp [Value.oneCell']) (by unfold maxLen; omega) (Nat.le_trans (Nat.mul_le_mul (show L.length + 1 ≤ 100001 by omega) hz3) (by decide)) (Nat.zero_le _) ?_
  · intro j u hj
    cases j with
    | zero => simp at hj; subst hj; rw [Addr.add_lit]; exact hB
    | succ j => simp at hj
  · intro v' w' h1 h2
    have h1' : LnAt w' v' (L ++ [p]) := by show w'.ownsRow 0 3 1 v' (L ++ [p]).length ((L ++ [p]).map (Value.int .i64)); rw [List.length_append, List.map_append]; exact h1
    rcases h2 with ⟨g1, g2⟩ | ⟨g1, g2, _⟩
    · exact h v' w' h1' ⟨g1.os, g1.tape, g1.output, g1.size, fun k hk _ => g1.block k hk (by simp)⟩ (fun g hg => .inr (g2 g hg))
    · exact h v' w' h1' g1 (fun g hg => .inl (by rw [← g2]; exact hg))
theorem run_buildent (B : Nat) (w : World) : (Instr.build 105 #[(1, .int .i64 1), (3, .int .i64 1), (4, .slice (some ⟨B, 0, none⟩) 1 1)]).run Try.prog w = .ok (.agg #[.int .u8 0, .int .u8 0, .int .u8 0, .int .u8 0, .int .u8 0, .int .u8 0, .int .i64 1, .int .i64 0, .int .i64 1, .slice (some ⟨B, 0, none⟩) 1 1]) w := by kernel_rfl
theorem wpList_build_ent {ops : Array Oper} {rest : List Oper} {o : Oper} {a : Act} {w : World} {Q : Exit → Act → World → Prop} (x : Operand) (ho : o.op = .build 105 #[(1, .const (.int .i64 1)), (3, .const (.int .i64 1)), (4, x)]) (B : Nat) (e : EV) (hx : a.eval x = .slice (some ⟨B, 0, none⟩) 1 1) (he : enC e = #[.int .u8 0, .int .u8 0, .int .u8 0, .int .u8 0, .int .u8 0, .int .u8 0, .int .i64 1, .int .i64 0, .int .i64 1, .slice (some ⟨B, 0, none⟩) 1 1]) (hw : Region.wanted o (yielded ops a.tmps) = true)
    (h : wpList Try.prog ops Q rest (a.put o.dst (.agg (enC e))) w) : wpList Try.prog ops Q (o :: rest) a w := by
  refine wpList_step fun K hK => ?_
  rw [if_pos hw]
  rw [he] at h
  have hcc : a.eval (.const (.int .i64 1)) = .int .i64 1 := rfl
  have hrun : (execOp a.eval o).run Try.prog w = .ok (.value (.agg #[.int .u8 0, .int .u8 0, .int .u8 0, .int .u8 0, .int .u8 0, .int .u8 0, .int .i64 1, .int .i64 0, .int .i64 1, .slice (some ⟨B, 0, none⟩) 1 1])) w := by
    obtain ⟨dst, op, type, pos, after, guard⟩ := o
    simp only at ho
    subst ho
    simp only [execOp, Sem.run_bind, List.map_toArray, List.map_cons, List.map_nil, hx, hcc, run_buildent B w, Result.andThen_ok]
    rfl
  unfold Oper.wp
  rw [hrun]
  exact hK _ _ h
/-- a MAC's box is none of the cache's blocks -/
theorem mac_apart {A : World} {t M B : Nat} {c : CF} {E : List EV} {m : Nat → Nat} (h : CA A t M c E) (hm : MacAt A B m) : ∀ q, CB t M E q → q ≠ B := fun q hq e => by
  unfold MacAt at hm
  rw [← e] at hm
  rcases hq with rfl | rfl | ⟨e0, he0, rfl | h0⟩
  · have h3 := h.cb; unfold CchAt at h3; rw [hm] at h3; simp only [Option.some.injEq, Obj.cells.injEq] at h3; exact absurd h3.2.1 (by decide)
  · obtain ⟨es, ck, h3⟩ := h.mblk; rw [hm] at h3; cases h3
  · have h3 := h.en e0 he0; unfold EntAt at h3; rw [hm] at h3; simp only [Option.some.injEq, Obj.cells.injEq] at h3; exact absurd h3.2.1 (by decide)
  · obtain ⟨cc, h3⟩ := (h.li e0 he0).kind q h0; rw [hm] at h3; simp only [Option.some.injEq, Obj.cells.injEq] at h3; exact absurd h3.2.1 (by decide)
set_option maxHeartbeats 6400000 in
set_option maxRecDepth 100000 in
theorem begin_any (t M : Nat) (c : CF) (E : List EV) (k : KV) (item : Int) (w : World) (h : CA w t M c E) (hl : E.length ≤ 1024) (ha : ∀ e ∈ E, 0 ≤ e.n.ag) (hk : k.Wf) (hn : fE E k = none) :
    Calls Try.prog 47 #[.pointer (some ⟨t, 0, none⟩), .agg (kC k), .int .i64 item] w fun r w' => ∃ er E' e, r = .returned (.tuple #[.agg (macC mz), .int .i64 (if er = 0 then 3 else 5), .int .i64 er]) ∧ e.n = ⟨k, mz, 1, 0, 1, [item]⟩ ∧ w.heap.size ≤ e.P ∧ (∀ g, e.lv.ownBlock = some g → w.heap.size ≤ g) ∧ AddR c E e er E' ∧ CA w' t M c E' ∧ Ch (fun q => q = M) w w' := by
  have HC : Hid (CA w t M c E ∧ E.length ≤ 1024 ∧ (∀ e ∈ E, 0 ≤ e.n.ag) ∧ k.Wf ∧ fE E k = none) := ⟨h, hl, ha, hk, hn⟩
  clear h hl ha hk hn
  have hb := key_new w k
  have bel : Below w.heap.size w (w.alloc (.cells (kC k) 98)) := (Below.refl _ _).alloc (Nat.le_refl _) _
  obtain ⟨CX, hC⟩ : ∃ C, C = kC k := ⟨_, rfl⟩
  obtain ⟨W, hW⟩ : ∃ W, W = w.alloc (.cells (kC k) 98) := ⟨_, rfl⟩
  rw [← hW] at hb bel
  obtain ⟨B, hB⟩ : ∃ B, B = w.heap.size := ⟨_, rfl⟩
  rw [← hB] at hb
  have HBX : Hid (KeyAt W B k) := hb
  rw [← hC] at hW ⊢
  have HOX : Hid (w.heap.size = B) := hB.symm
  have HLX : Hid (Below w.heap.size w W) := bel
  have HWX : Hid (w.alloc (.cells CX 98) = W) := hW.symm
  clear hb hW hB hC bel
  have HSZ : Hid (W.heap.size = B + 1) := by show _ = _; rw [← HWX.out, World.size_alloc, HOX.out]
  obtain ⟨Y, hY⟩ : ∃ Y, Y = W.alloc (.cells (macC mz) 33) := ⟨_, rfl⟩
  have bY : Below W.heap.size W Y := by rw [hY]; exact (Below.refl _ _).alloc (Nat.le_refl _) _
  have HY : Hid (KeyAt Y B k ∧ MacAt Y (B + 1) mz ∧ Below w.heap.size w Y ∧ CA Y t M c E) := ⟨HBX.out.below bY, by rw [hY, ← HSZ.out]; exact mac_new W mz, bthen HLX.out bY, HC.out.1.below (bthen HLX.out bY)⟩
  have HYE : Hid (W.alloc (.cells (macC mz) 33) = Y ∧ Y.heap.size = B + 2) := ⟨hY.symm, by rw [hY, World.size_alloc, HSZ.out]⟩
  clear hY bY
  obtain ⟨e, he⟩ : ∃ e : EV, e = ⟨⟨k, mz, 1, 0, 1, [item]⟩, Y.heap.size + 1, .slice (some ⟨Y.heap.size, 0, none⟩) 1 1⟩ := ⟨_, rfl⟩
  obtain ⟨Z, hZ⟩ : ∃ Z, Z = (Y.alloc (.cells #[.int .i64 item] 3)).alloc (.cells (enC e) 105) := ⟨_, rfl⟩
  have bZ : Below Y.heap.size Y Z := by rw [hZ]; exact ((Below.refl _ _).alloc (Nat.le_refl _) _).alloc (by simp) _
  have HE : Hid (e.n = ⟨k, mz, 1, 0, 1, [item]⟩ ∧ e.P = Y.heap.size + 1 ∧ e.lv = .slice (some ⟨Y.heap.size, 0, none⟩) 1 1 ∧ enC e = #[.int .u8 0, .int .u8 0, .int .u8 0, .int .u8 0, .int .u8 0, .int .u8 0, .int .i64 1, .int .i64 0, .int .i64 1, .slice (some ⟨Y.heap.size, 0, none⟩) 1 1]) := by rw [he]; exact ⟨rfl, rfl, rfl, rfl⟩
  have HZ : Hid ((Y.alloc (.cells #[.int .i64 item] 3)).alloc (.cells (enC e) 105) = Z ∧ CA Z t M c E ∧ Below w.heap.size w Z ∧ KeyAt Z B k ∧ MacAt Z (B + 1) mz ∧ EntAt Z e ∧ LnAt Z e.lv e.n.ln) := by
    refine ⟨hZ.symm, HY.out.2.2.2.below bZ, bthen HY.out.2.2.1 bZ, HY.out.1.below bZ, HY.out.2.1.below bZ, ?_, ?_⟩
    · unfold EntAt
      rw [hZ, HE.out.2.1]
      have := heap_alloc_new (Y.alloc (.cells #[.int .i64 item] 3)) (.cells (enC e) 105)
      rw [World.size_alloc] at this
      exact this
    · rw [HE.out.2.2.1, HE.out.1]
      have h1 : (Y.alloc (.cells #[.int .i64 item] 3)).heap[Y.heap.size]? = some (.cells #[.int .i64 item] 3 (0, 0)) := heap_alloc_new _ _
      have h2 : Z.heap[Y.heap.size]? = some (.cells #[.int .i64 item] 3 (0, 0)) := by
        rw [hZ]
        exact (((Below.refl _ _).alloc (Nat.le_refl _) _).block Y.heap.size (by simp)).trans h1
      exact ⟨rfl, .inr ⟨Y.heap.size, 1, _, rfl, Nat.zero_le _, h2, Nat.le_refl _, by unfold maxLen; omega, rfl, rfl⟩⟩
  have HKN : Hid (e.n.k = k) := by show e.n.k = k; rw [HE.out.1]
  have QA : Hid _ := add_any t M c E e Z HZ.out.2.1 HC.out.2.1 HC.out.2.2.1 (by rw [HKN.out]; exact HC.out.2.2.2.1) (by rw [HKN.out]; exact HC.out.2.2.2.2) HZ.out.2.2.2.2.2.1 HZ.out.2.2.2.2.2.2 (fun a haE q => by have h1 := HY.out.2.2.2.tlt a.P (.inr (.inr ⟨a, haE, .inl rfl⟩)); have h2 := HE.out.2.1; omega) (fun a haE g hg q => by
    have h1 := HY.out.2.2.2.tlt g (.inr (.inr ⟨a, haE, .inr hg⟩))
    rw [HE.out.2.2.1] at q
    simp [Value.ownBlock] at q
    omega)
  rw [HKN.out, HE.out.2.1] at QA
  clear he hZ bZ HBX
  go_enter Try.func47, Try.ntmps47
  go_wp2_with (first | (rw [HOX.out, HWX.out]; refine wpList_alloc_mac rfl rfl ?_; rw [HSZ.out, HYE.out.1]; simp only [Act.put, List.setIfInBounds_toArray, List.set_cons_succ, List.set_cons_zero]) | (refine wpList_load_key (.tmp 4) rfl B k rfl HY.out.1 rfl ?_) | (refine wpList_bs1i (.tmp 12) rfl item rfl rfl ?_) | (refine wpList_build_ent (.tmp 13) rfl Y.heap.size e rfl HE.out.2.2.2 rfl ?_))
  rw [HZ.out.1]
  (try rw [World.size_alloc])
  refine Calls.mono QA.out ?_
  rintro r w5 ⟨er, E', rfl, hadd, hCA, hch⟩
  have H5 : Hid (AddR c E e er E' ∧ CA w5 t M c E' ∧ Ch (fun q => q = M) w w5 ∧ MacAt w5 (B + 1) mz) := ⟨hadd, hCA, (Ch.ofBelow (S := fun q => q = M) HZ.out.2.2.1).trans hch (fun _ _ h => h), HZ.out.2.2.2.2.1.ch hch (fun q => by have q' : B + 1 = M := q; have h1 := HC.out.1.tlt M (.inr (.inl rfl)); have := HOX.out; omega)⟩
  have HN : Hid (w.heap.size ≤ e.P ∧ ∀ g, e.lv.ownBlock = some g → w.heap.size ≤ g) := ⟨by have := HE.out.2.1; have := HY.out.2.2.1.size; omega, fun g hg => by
    rw [HE.out.2.2.1] at hg
    simp [Value.ownBlock] at hg
    have := HY.out.2.2.1.size
    omega⟩
  clear hadd hCA hch QA
  by_cases h0 : er = 0
  · subst h0
    go_wp2_with (first | (refine wpList_build_mac0 rfl rfl ?_) | (refine wpList_store_mac (.tmp 6) (.tmp 21) rfl rfl (B + 1) mz mz rfl rfl H5.out.2.2.2 rfl ?_))
    intro w6 hM6 k6
    have H6 : Hid (MacAt w6 (B + 1) mz ∧ CA w6 t M c E' ∧ Ch (fun q => q = M) w w6) := by
      have hb := HOX.out
      refine ⟨hM6, H5.out.2.1.ch k6 (fun q hq e0 => ?_), H5.out.2.2.1.trans k6 (fun q h1 h2 => by have h2' : q = B + 1 := h2; omega)⟩
      have e1 : q = B + 1 := e0
      exact mac_apart H5.out.2.1 H5.out.2.2.2 q hq e1
    clear hM6 k6
    go_wp2_with fail
    refine bodyPost_ret (results_mac_tt rfl _ _ (B + 1) mz rfl H6.out.1) rfl ?_
    exact ⟨0, E', e, rfl, HE.out.1, HN.out.1, HN.out.2, H5.out.1, H6.out.2.1, H6.out.2.2⟩
  · have q0 : (er != 0) = true := by simpa using h0
    have HN0 : Hid ((if er = 0 then (3 : Int) else 5) = 5) := if_neg h0
    clear h0
    go_wp2_with (first | (refine wpList_build_mac0 rfl rfl ?_) | (refine wpList_store_mac (.tmp 6) (.tmp 19) rfl rfl (B + 1) mz mz rfl rfl H5.out.2.2.2 rfl ?_))
    intro w6 hM6 k6
    have H6 : Hid (MacAt w6 (B + 1) mz ∧ CA w6 t M c E' ∧ Ch (fun q => q = M) w w6) := by
      have hb := HOX.out
      refine ⟨hM6, H5.out.2.1.ch k6 (fun q hq e0 => ?_), H5.out.2.2.1.trans k6 (fun q h1 h2 => by have h2' : q = B + 1 := h2; omega)⟩
      have e1 : q = B + 1 := e0
      exact mac_apart H5.out.2.1 H5.out.2.2.2 q hq e1
    clear hM6 k6
    go_wp2_with fail
    refine bodyPost_ret (results_mac_tt rfl _ _ (B + 1) mz rfl H6.out.1) rfl ?_
    exact ⟨er, E', e, by rw [HN0.out]; rfl, HE.out.1, HN.out.1, HN.out.2, H5.out.1, H6.out.2.1, H6.out.2.2⟩
set_option maxHeartbeats 6400000 in
set_option maxRecDepth 100000 in
theorem wait_any (t M : Nat) (c : CF) (E : List EV) (k : KV) (e : EV) (item : Int) (w : World) (h : CA w t M c E) (hf : fE E k = some e) (hb : e.n.ln.length ≤ 64) :
    Calls Try.prog 48 #[.pointer (some ⟨t, 0, none⟩), .pointer (some ⟨e.P, 0, none⟩), .int .i64 item] w fun r w' => ((e.n.ln.length : Int) = c.li ∧ r = .returned (.tuple #[.agg (macC mz), .int .i64 5, .int .i64 152]) ∧ Below w.heap.size w w') ∨ ((e.n.ln.length : Int) ≠ c.li ∧ ∃ lv', r = .returned (.tuple #[.agg (macC mz), .int .i64 4, .int .i64 0]) ∧ CA w' t M c (updE E k ⟨{ e.n with ln := e.n.ln ++ [item] }, e.P, lv'⟩) ∧ Ch (fun q => q = e.P ∨ e.lv.ownBlock = some q) w w' ∧ ∀ g, lv'.ownBlock = some g → e.lv.ownBlock = some g ∨ w.heap.size ≤ g) := by
  have hm := (fE_some hf).1
  obtain ⟨la, lc, hlv⟩ := (h.li e hm).form
  obtain ⟨n, hn⟩ : ∃ n, n = e.n.ln.length := ⟨_, rfl⟩
  rw [← hn] at hlv
  have HLV : Hid (e.lv = .slice la n lc) := hlv
  have HNN : Hid (e.n.ln.length = n ∧ n ≤ 64) := ⟨hn.symm, by rw [hn]; exact hb⟩
  have HC : Hid (CA w t M c E ∧ fE E k = some e ∧ e ∈ E) := ⟨h, hf, hm⟩
  obtain ⟨B, hB⟩ : ∃ B, B = w.heap.size := ⟨_, rfl⟩
  obtain ⟨W, hW⟩ : ∃ W, W = w.alloc (.cells (macC mz) 33) := ⟨_, rfl⟩
  have bW : Below w.heap.size w W := by rw [hW]; exact (Below.refl _ _).alloc (Nat.le_refl _) _
  have HW : Hid (w.alloc (.cells (macC mz) 33) = W ∧ w.heap.size = B ∧ MacAt W B mz ∧ Below w.heap.size w W ∧ CA W t M c E) := ⟨hW.symm, hB.symm, by rw [hW, hB]; exact mac_new w mz, bW, h.below bW⟩
  clear h hf hb hm hlv hn hB hW bW
  go_enter Try.func48, Try.ntmps48
  go_upto_region 1 with (first | (refine wpList_alloc_mac rfl rfl ?_))
  rw [HW.out.1, HW.out.2.1]
  go_cut [19] (fun b wx => b = .bool ((n : Int) == c.li) ∧ Hid (CA wx t M c E ∧ MacAt wx B mz ∧ Below w.heap.size w wx))
  case first =>
    refine MixH.start (fun A => EntAt A e ∧ CchAt A t c M) (by kernel_rfl) ?_
    obtain ⟨wA, hwA⟩ : ∃ wA, wA = W.drew := ⟨_, rfl⟩
    have bdr : Below W.heap.size W wA := by rw [hwA]; exact (Below.refl _ _).drew
    have HE : Hid (CA wA t M c E ∧ MacAt wA B mz ∧ Below w.heap.size w wA) := ⟨HW.out.2.2.2.2.below bdr, HW.out.2.2.1.below bdr, bthen HW.out.2.2.2.1 bdr⟩
    have hS : EntAt wA e ∧ CchAt wA t c M := ⟨HE.out.1.en e HC.out.2.2, HE.out.1.cb⟩
    rw [← hwA]
    clear hwA bdr
    refine MixH.takes [true, true, true, false, false, true, true, true, true] 4 (by kernel_rfl) (by kernel_rfl) (by decide) (by kernel_rfl) hS (fun K hK => ?_)
    simp only [Mix.pick]
    repeat (go_big_quiet_step (fail))
    refine wpQuiet_nil (hK _ ?_)
    clear hK K
    refine MixH.take 3 3 _ (.slice la n lc) rfl (by kernel_rfl) (by kernel_rfl) (by kernel_rfl) (by kernel_rfl) (yields_ints (.tmp 11) rfl ⟨e.P, 9, none⟩ (.slice la n lc) rfl rfl (fun A hA => by rw [EntAt.cell hA.1 9]; show some e.lv = _; rw [HLV.out])) hS (fun a' ha => ?_)
    simp only [Act.put, List.setIfInBounds_toArray, List.set_cons_succ, List.set_cons_zero] at ha
    subst ha
    refine MixH.takes [false, false, false, false, true] 2 (by kernel_rfl) (by kernel_rfl) (by decide) (by kernel_rfl) hS (fun K hK => ?_)
    simp only [Mix.pick]
    repeat (go_big_quiet_step (fail))
    refine wpQuiet_nil (hK _ ?_)
    clear hK K
    refine MixH.take 1 9 _ (.int .i64 c.li) rfl (by kernel_rfl) (by kernel_rfl) (by kernel_rfl) (by kernel_rfl) (yields_int (.tmp 17) rfl ⟨t, 1, none⟩ (.int .i64 c.li) rfl rfl (fun A hA => hA.2.cell 1)) hS (fun a' ha => ?_)
    simp only [Act.put, List.setIfInBounds_toArray, List.set_cons_succ, List.set_cons_zero] at ha
    subst ha
    refine MixH.takes [false, false, false, false, false, false, false, false, false, false, true] 0 (by kernel_rfl) (by kernel_rfl) (by decide) (by kernel_rfl) hS (fun K hK => ?_)
    simp only [Mix.pick]
    repeat (go_big_quiet_step (fail))
    refine wpQuiet_nil (hK _ ?_)
    clear hK K
    refine MixH.done (by kernel_rfl) ?_
    clear hS
    go_wp2
    go_meet
    exact ⟨rfl, HE⟩
  case rest =>
    obtain ⟨rfl, HE⟩ := hcut
    by_cases hfull : (n : Int) = c.li
    · have qf : ((n : Int) == c.li) = true := by simpa using hfull
      have HFU : Hid ((n : Int) = c.li) := hfull
      rw [qf]
      clear qf hfull
      go_wp2_with (first | (refine wpList_build_mac0 rfl rfl ?_) | (refine wpList_store_mac (.tmp 6) (.tmp 20) rfl rfl B mz mz rfl rfl HE.out.2.1 rfl ?_))
      intro w6 hM6 k6
      have H6 : Hid (MacAt w6 B mz ∧ Below w.heap.size w w6) := ⟨hM6, HE.out.2.2.trans (k6.below (fun q hq => by have hq' : q = B := hq; have := HW.out.2.1; omega) HE.out.2.2.size)⟩
      clear hM6 k6
      go_wp2_with fail
      refine bodyPost_ret (results_mac_tt rfl _ _ B mz rfl H6.out.1) rfl ?_
      exact .inl ⟨by rw [HNN.out.1]; exact HFU.out, rfl, H6.out.2⟩
    · have qf : ((n : Int) == c.li) = false := by simpa using hfull
      have HFU : Hid ((n : Int) ≠ c.li) := hfull
      rw [qf]
      clear qf hfull
      have c9 := EntAt.cell (HE.out.1.en e HC.out.2.2) 9
      simp only [enC, List.getElem?_toArray, List.getElem?_cons_succ, List.getElem?_cons_zero] at c9
      rw [HLV.out] at c9
      have HLN : Hid (LnAt (wc.alloc (.cells #[.int .i64 item] 3)) (.slice la n lc) e.n.ln ∧ (wc.alloc (.cells #[.int .i64 item] 3)).cell? ⟨wc.heap.size, 0, none⟩ = some (.int .i64 item)) := ⟨by
        rw [← HLV.out]
        exact (Ch.ofBelow (S := fun _ => False) ((Below.refl _ _).alloc (Nat.le_refl _) _)).owns (HE.out.1.li e HC.out.2.2) (fun _ _ h => h), by rw [World.cell?_alloc_at _ _ _ _ rfl]; rfl⟩
      go_wp2_with (first | (refine wpList_bs1i (.tmp 26) rfl item rfl rfl ?_) | (refine wpList_app1i rfl (.tmp 25) (.tmp 27) rfl (.slice la n lc) e.n.ln rfl HLN.out.1 wc.heap.size item rfl HLN.out.2 (by have := HNN.out; omega) ?_))
      intro lv' w7 hL7 hg7 hv7
      obtain ⟨la', lc', hlf⟩ := LnAt.form hL7
      obtain ⟨n2, hn2⟩ : ∃ n2, n2 = (e.n.ln ++ [item]).length := ⟨_, rfl⟩
      rw [← hn2] at hlf
      have bz : Below wc.heap.size wc (wc.alloc (.cells #[.int .i64 item] 3)) := (Below.refl _ _).alloc (Nat.le_refl _) _
      have k7 : Ch (fun q => e.lv.ownBlock = some q) wc w7 := (Ch.ofBelow (S := fun q => e.lv.ownBlock = some q) bz).trans (Ch.ofGrown hg7) (fun q _ hq => by rw [HLV.out]; exact hq)
      have hPl : e.lv.ownBlock ≠ some e.P := fun q => (HE.out.1.nt.2.1 e HC.out.2.2).2.2 e HC.out.2.2 q
      have hE7 : EntAt w7 e := (HE.out.1.en e HC.out.2.2).ch k7 hPl
      have c97 := EntAt.cell hE7 9
      have f97 := EntAt.fz hE7 9
      simp only [enC, List.getElem?_toArray, List.getElem?_cons_succ, List.getElem?_cons_zero] at c97
      obtain ⟨w8, hw8⟩ : ∃ w8, w8 = w7.setCell ⟨e.P, 9, none⟩ lv' := ⟨_, rfl⟩
      have hP' : ∀ g, lv'.ownBlock = some g → g ≠ e.P := fun g hg q => by
        obtain ⟨cc, hc⟩ := LnAt.kind hL7 g hg
        unfold EntAt at hE7
        rw [q, hE7] at hc
        simp only [Option.some.injEq, Obj.cells.injEq] at hc
        exact absurd hc.2.1 (by decide)
      have hv7' : ∀ g, lv'.ownBlock = some g → e.lv.ownBlock = some g ∨ wc.heap.size ≤ g := fun g hg => by
        rcases hv7 g hg with h1 | h1
        · exact .inl (by rw [HLV.out]; exact h1)
        · exact .inr (by (try rw [World.size_alloc] at h1); omega)
      have k8 : Ch (fun q => q = e.P) w7 w8 := by rw [hw8]; exact (Ch.refl _ _).set _ _ rfl
      have H8 : Hid (CA w8 t M c (updE E k ⟨{ e.n with ln := e.n.ln ++ [item] }, e.P, lv'⟩) ∧ Ch (fun q => q = e.P ∨ e.lv.ownBlock = some q) w w8 ∧ MacAt w8 B mz ∧ (∀ g, lv'.ownBlock = some g → e.lv.ownBlock = some g ∨ w.heap.size ≤ g)) := by
        have k78 : Ch (fun q => q = e.P ∨ e.lv.ownBlock = some q) wc w8 := (k7.mono (fun _ _ h => .inr h)).trans k8 (fun _ _ h => .inl h)
        have hs := HE.out.2.2.size
        refine ⟨HE.out.1.turned HC.out.2.1 rfl rfl k78 (by rw [hw8]; exact EntAt.set (e' := ⟨{ e.n with ln := e.n.ln ++ [item] }, e.P, lv'⟩) hE7 9 lv' rfl rfl) (k8.owns hL7 (fun g hg q => hP' g hg q)) hv7', (Ch.ofBelow HE.out.2.2).trans k78 (fun _ _ h => h), ?_, fun g hg => (hv7' g hg).imp id (fun h => by omega)⟩
        refine HE.out.2.1.ch k78 (fun q => ?_)
        have h1 := mac_apart HE.out.1 HE.out.2.1
        rcases q with q | q
        · exact h1 e.P (.inr (.inr ⟨e, HC.out.2.2, .inl rfl⟩)) q.symm
        · exact h1 B (.inr (.inr ⟨e, HC.out.2.2, .inr q⟩)) rfl
      subst hlf
      clear hn2 hL7 hg7 hv7 bz k7 hPl hE7 hP' hv7' k8 c9
      go_upto_region 4 with fail
      rw [← hw8]
      clear hw8 c97 f97
      go_wp2_with (first | (refine wpList_build_mac0 rfl rfl ?_) | (refine wpList_store_mac (.tmp 6) (.tmp 31) rfl rfl B mz mz rfl rfl H8.out.2.2.1 rfl ?_))
      intro w9 hM9 k9
      have H9 : Hid (MacAt w9 B mz ∧ CA w9 t M c (updE E k ⟨{ e.n with ln := e.n.ln ++ [item] }, e.P, .slice la' n2 lc'⟩) ∧ Ch (fun q => q = e.P ∨ e.lv.ownBlock = some q) w w9) := by
        have hb := HW.out.2.1
        refine ⟨hM9, H8.out.1.ch k9 (fun q hq e0 => ?_), H8.out.2.1.trans k9 (fun q h1 h2 => by have h2' : q = B := h2; omega)⟩
        have e1 : q = B := e0
        exact mac_apart H8.out.1 H8.out.2.2.1 q hq e1
      clear hM9 k9
      go_wp2_with fail
      refine bodyPost_ret (results_mac_tt rfl _ _ B mz rfl H9.out.1) rfl ?_
      refine .inr ⟨?_, rfl, .slice la' n2 lc', H9.out.2.1, H9.out.2.2, H8.out.2.2.2⟩
      rw [HNN.out.1]
      exact HFU.out
end Go.Proofs.Ytnpipngiehohgaa
