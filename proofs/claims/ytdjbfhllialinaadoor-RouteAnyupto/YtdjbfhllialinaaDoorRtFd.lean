/-
  Layer 14: Find: the first of the address's prefixes, from the longest on, that a route has.
-/
import Derived.Test.YtdjbfhllialinaaDoorRtIt
namespace Go.Proofs.YtdjbfhllialinaaDoor
open Go.RowKit Go.Maps Go.Shelf
attribute [local go_sem] Oper.semAt_some

theorem kf_ch {B : Nat} {S : Nat → Prop} {W W' : World} (k : Ch S W W') (hS : ∀ q, q < W.heap.size → S q → ∃ o : Obj, W.heap[q]? = some o ∧ o.isCells = true) : KeepsFrom B W W' :=
  ⟨k.size, fun i o _ hi ho => by
    have hlt := (Array.getElem?_eq_some_iff.1 hi).1
    by_cases hs : S i
    · obtain ⟨o', h1, h2⟩ := hS i hlt hs
      rw [hi] at h1
      cases h1
      rw [ho] at h2
      cases h2
    · exact (k.block i hlt hs).trans hi⟩
theorem kf_below {B : Nat} {W W' : World} (b : Below W.heap.size W W') : KeepsFrom B W W' := kf_ch (Ch.ofBelow (S := fun _ => False) b) (fun _ _ h => h.elim)
theorem fold_one (A0 : Array Value) (v : Value) (k : Tmp) : ((#[k] : Array Tmp).zip #[v]).foldl (fun t (p, v) => t.setIfInBounds p v) A0 = A0.setIfInBounds k v := by simp
structure FP (w : World) (t M : Nat) (D : DataW Value) (R : List RV) (B O2 O3 : Nat) (r : RV) (b : Bool) (W : World) : Prop where
  tab : TabAt W t M D R
  ct : W.cell? ⟨B, 0, none⟩ = some (.pointer (some ⟨t, 0, none⟩))
  res : RteAt W O2 r
  cb : W.cell? ⟨O3, 0, none⟩ = some (.bool b)
  fb : W.frozen? ⟨O3, 0, none⟩ = false
  bel : Below w.heap.size w W
theorem FP.ch {w : World} {t M : Nat} {D : DataW Value} {R : List RV} {B O2 O3 : Nat} {r : RV} {b : Bool} {W W' : World} {S : Nat → Prop} {L : Nat} (h : FP w t M D R B O2 O3 r b W) (k : Ch S W W') (hS : ∀ q, S q → L ≤ q) (hL : t < L ∧ M < L ∧ B < L ∧ O2 < L ∧ O3 < L ∧ w.heap.size ≤ L) : FP w t M D R B O2 O3 r b W' := by
  have no : ∀ q, q < L → ¬ S q := fun q hq hs => by have := hS q hs; omega
  exact ⟨h.tab.ch k (no _ hL.1) (no _ hL.2.1), k.cell h.ct (no B (by omega)), h.res.ch k (no O2 (by omega)), k.cell h.cb (no O3 (by omega)), (k.frozen (p := ⟨O3, 0, none⟩) (World.block_lt_of_cell? W _ h.cb) (no O3 (by omega))).trans h.fb, h.bel.trans (k.below (fun q hq => by have := hS q hq; omega) h.bel.size)⟩
theorem results_cell2 {fn : Func} {p q : Tmp} {ty tz : TypeId} (h : fn.results = #[.cell p ty, .cell q tz]) (tmps : Array Value) (P : Program) (w : World) :
    (results fn tmps).run P w = ((asAddr (tmps.getD p undef)).run P w).andThen fun a w1 => ((loadVar ty a).run P w1).andThen fun v w2 => ((asAddr (tmps.getD q undef)).run P w2).andThen fun b w3 => ((loadVar tz b).run P w3).andThen fun u w4 => .ok (.tuple #[v, u]) w4 := by
  simp only [results, h]
  simp [Sem.run_bind, Result.andThen]
theorem cellOne (w : World) (v : Value) (ty : TypeId) : (w.alloc (.cells #[v] ty)).cell? ⟨w.heap.size, 0, none⟩ = some v ∧ (w.alloc (.cells #[v] ty)).frozen? ⟨w.heap.size, 0, none⟩ = false := by
  have h := heap_alloc_new w (.cells #[v] ty)
  constructor
  · unfold World.cell?; simp only [h]; rfl
  · unfold World.frozen?; simp only [h]; rfl
theorem cellUp {w : World} {p : Addr} {v : Value} (o : Obj) (h : w.cell? p = some v) : (w.alloc o).cell? p = some v := (((Below.refl _ w).alloc (Nat.le_refl _) o).cell (World.block_lt_of_cell? w _ h)).trans h
theorem results_rte_bool {fn : Func} {p q : Tmp} (h : fn.results = #[.cell p 29, .cell q 4]) (tmps : Array Value) (w : World) (O Z : Nat) (r : RV) (b : Bool) (hp : tmps.getD p undef = .pointer (some ⟨O, 0, none⟩)) (hq : tmps.getD q undef = .pointer (some ⟨Z, 0, none⟩)) (hb : RteAt w O r) (hc : w.cell? ⟨Z, 0, none⟩ = some (.bool b)) :
    (results fn tmps).run Tryd.prog w = .ok (.tuple #[.agg (rtC r), .bool b]) w := by
  have e1 := run_loadVar_row w O _ 29 (rtC r) _ _ hb Tryd.underlying29 rfl Tryd.size_rte
  have e2 : (loadVar 4 ⟨Z, 0, none⟩).run Tryd.prog w = .ok (.bool b) w := by
    have hu := Tryd.underlying4
    simp [go_sem, hc, loadVar]
  rw [results_cell2 h tmps Tryd.prog w, hp, hq]
  simp [asAddr, e1, e2, Result.andThen]
def fIP (R : List RV) (V : Int) (x : Nat → Nat) : Option RV := ((List.range (cnP V x)).map (elP V x)).findSome? (fnd R)
theorem fIP_none {R : List RV} {V : Int} {x : Nat → Nat} {hv : (Lit.int .i64 V).wf = true} {hx : ∀ i, i < 16 → x i < 256} (h : ∀ p ∈ uptoW V x hv hx (cnP V x), fnd R p.1 = none) : fIP R V x = none := by
  unfold fIP
  rw [List.findSome?_eq_none_iff]
  intro p hp
  obtain ⟨i, hi, rfl⟩ := List.mem_map.1 hp
  exact h (elW V x hv hx i) (List.mem_map.2 ⟨i, hi, rfl⟩)
theorem fIP_some {R : List RV} {V : Int} {x : Nat → Nat} {hv : (Lit.int .i64 V).wf = true} {hx : ∀ i, i < 16 → x i < 256} {j : Nat} {q : List PW} {p : PW} {r : RV} (hj : j ≤ cnP V x) (e : q ++ [p] = uptoW V x hv hx j) (h : ∀ p ∈ q, fnd R p.1 = none) (hr : fnd R p.1 = some r) : fIP R V x = some r := by
  have hl := congrArg List.length e
  rw [uptoW_len] at hl
  simp only [List.length_append, List.length_cons, List.length_nil] at hl
  obtain ⟨i, rfl⟩ : ∃ i, j = i + 1 := ⟨j - 1, by omega⟩
  rw [uptoW_succ] at e
  obtain ⟨e1, e2⟩ := List.append_inj' e rfl
  simp only [List.cons.injEq, and_true] at e2
  subst e2
  unfold fIP
  obtain ⟨d, hd⟩ : ∃ d, cnP V x = i + 1 + d := ⟨cnP V x - (i + 1), by omega⟩
  rw [hd, List.range_add, List.range_succ, List.map_append, List.map_append, List.append_assoc, List.findSome?_append, List.findSome?_append]
  have e3 : ((List.range i).map (elP V x)).findSome? (fnd R) = none := by
    rw [List.findSome?_eq_none_iff]
    intro y hy
    obtain ⟨k, hk, rfl⟩ := List.mem_map.1 hy
    refine h (elW V x hv hx k) ?_
    rw [e1]
    exact List.mem_map.2 ⟨k, hk, rfl⟩
  rw [e3]
  have hr' : fnd R (elP V x i) = some r := hr
  simp [hr']
theorem cells_of_cell {w : World} {p : Addr} {v : Value} (h : w.cell? p = some v) : ∃ o : Obj, w.heap[p.block]? = some o ∧ o.isCells = true := by
  unfold World.cell? at h
  split at h
  · rename_i c e f hh; exact ⟨_, hh, rfl⟩
  · cases h
theorem wpListIn_load_rte {F : Fence} {n : Nat} {ops : Array Oper} {rest : List Oper} {o : Oper} {a : Act} {w : World} {Q : Exit → Act → World → Prop} (x : Operand) (ho : o.op = .load 29 x) (O : Nat) (r : RV) (hx : a.eval x = .pointer (some ⟨O, 0, none⟩)) (hb : RteAt w O r)
    (hw : Region.wanted o (yielded ops a.tmps) = true) (hh : wpListIn F n Tryd.prog ops Q rest (a.put o.dst (.agg (rtC r))) w) : wpListIn F n Tryd.prog ops Q (o :: rest) a w :=
  stepIn (by rw [ho]; rfl) hw fun K hK => wp_load_row 29 x ho O hx _ _ _ _ hb Tryd.underlying29 rfl Tryd.size_rte (hK _ _ hh)
theorem wpListIn_store_rte {F : Fence} {n : Nat} {ops : Array Oper} {rest : List Oper} {o : Oper} {a : Act} {w : World} {Q : Exit → Act → World → Prop} (x y : Operand) (ho : o.op = .store 29 x y) (hd : o.dst = none) (O : Nat) (r r' : RV) (hx : a.eval x = .pointer (some ⟨O, 0, none⟩)) (hy : a.eval y = .agg (rtC r')) (hb : RteAt w O r)
    (hw : Region.wanted o (yielded ops a.tmps) = true) (hh : ∀ w', RteAt w' O r' → Ch (fun q => q = O) w w' → wpListIn F n Tryd.prog ops Q rest a w') : wpListIn F n Tryd.prog ops Q (o :: rest) a w :=
  stepIn (by rw [ho]; rfl) hw fun K hK => by
    refine wp_store_row 29 x y ho O (rtC r') hx hy _ (rtC r) hb Tryd.size_rte rfl (by simp [rtC, Value.oneCell']) (hK _ _ ?_)
    rw [hd]
    refine hh _ (setRow_heap w O _ _ _ _ hb) ⟨rfl, rfl, rfl, ?_, ?_⟩
    · simp [World.setRow]
    · intro k hk hne
      simp only [World.setRow]
      rw [Array.getElem?_modify, if_neg (fun e => hne e.symm)]
theorem yields_ptr {ops : Array Oper} {o : Oper} {a : Act} {S : World → Prop} (x : Operand) (ho : o.op = .load 31 x) (p : Addr) (u : Value) (hx : a.eval x = .pointer (some p)) (hw : Region.wanted o (yielded ops a.tmps) = true) (hS : ∀ w, S w → w.cell? p = some u) : YieldsIf Tryd.prog ops S o u a := by
  refine .inl ⟨hw, fun w hb => ?_⟩
  have hc := hS w hb
  have hu := Tryd.underlying31
  obtain ⟨dst, op, type, pos, after, guard⟩ := o
  simp only at ho
  subst ho
  simp only [execOp, Sem.run_bind, Sem.run_pure]
  rw [hx]
  simp [Instr.loadAt, go_sem, hc]
theorem wpListIn_alloc_rte {F : Fence} {n : Nat} {ops : Array Oper} {rest : List Oper} {o : Oper} {a : Act} {w : World} {Q : Exit → Act → World → Prop} (ho : o.op = .alloc 29) (hw : Region.wanted o (yielded ops a.tmps) = true)
    (h : wpListIn F n Tryd.prog ops Q rest (a.put o.dst (.pointer (some ⟨w.heap.size, 0, none⟩))) (w.alloc (.cells (rtC rz) 29))) : wpListIn F n Tryd.prog ops Q (o :: rest) a w :=
  stepIn (by rw [ho]; rfl) hw fun K hK => by
    have hrun : (execOp a.eval o).run Tryd.prog w = .ok (.value (.pointer (some ⟨w.heap.size, 0, none⟩))) (w.alloc (.cells (rtC rz) 29)) := by
      obtain ⟨dst, op, type, pos, after, guard⟩ := o
      simp only at ho
      subst ho
      simp only [execOp]
      go_simp
      rfl
    unfold Oper.wp
    rw [hrun]
    exact hK _ _ h
set_option maxRecDepth 100000 in
set_option maxHeartbeats 6400000 in
theorem find_any (t M : Nat) (D : DataW Value) (R : List RV) (V : Int) (x : Nat → Nat) (w : World) (h : TabAt w t M D R) (hv : (Lit.int .i64 V).wf = true) (hx : ∀ i, i < 16 → x i < 256) :
    Calls Tryd.prog 9 #[.pointer (some ⟨t, 0, none⟩), .agg (ipCells V x)] w fun e w' => e = .returned (.tuple #[.agg (rtC ((fIP R V x).getD rz)), .bool (fIP R V x).isSome]) ∧ Below w.heap.size w w' := by
  refine (callsIn_wide (n := 3)).1 ?_
  obtain ⟨B, hB⟩ : ∃ B, B = w.heap.size := ⟨_, rfl⟩
  obtain ⟨C, hC⟩ : ∃ C, C = ipCells V x := ⟨_, rfl⟩
  obtain ⟨W, hW⟩ : ∃ W, W = (((w.alloc (.cells #[.pointer (some ⟨t, 0, none⟩)] 31)).alloc (.cells C 25)).alloc (.cells (rtC rz) 29)).alloc (.cells #[.bool false] 4) := ⟨_, rfl⟩
  have bel : Below w.heap.size w W := by rw [hW]; exact ((((Below.refl _ _).alloc (Nat.le_refl _) _).alloc (by simp) _).alloc (by simp; omega) _).alloc (by simp; omega) _
  have hsz : W.heap.size = B + 4 := by rw [hW, hB]; simp
  have hIP : IprAt W (B + 1) V x := by
    have h1 := ipr_new (w.alloc (.cells #[.pointer (some ⟨t, 0, none⟩)] 31)) V x
    rw [World.size_alloc] at h1
    have h2 := (h1.below ((Below.refl _ _).alloc (Nat.le_refl _) (.cells (rtC rz) 29)))
    have h3 := (h2.below ((Below.refl _ _).alloc (Nat.le_refl _) (.cells #[.bool false] 4)))
    rw [hW, hB, hC]
    exact h3
  have hFP : FP w t M D R B (B + 1 + 1) (B + 1 + 1 + 1) rz false W := by
    have h1 := rte_new ((w.alloc (.cells #[.pointer (some ⟨t, 0, none⟩)] 31)).alloc (.cells C 25)) rz
    simp only [World.size_alloc] at h1
    have h2 := (h1.below ((Below.refl _ _).alloc (Nat.le_refl _) (.cells #[.bool false] 4)))
    refine ⟨h.below bel, ?_, by rw [hW, hB]; exact h2, ?_, ?_, bel⟩
    · have e1 := cellOne w (.pointer (some ⟨t, 0, none⟩)) 31
      rw [hW, hB]
      exact cellUp _ (cellUp _ (cellUp _ e1.1))
    · have e1 := cellOne (((w.alloc (.cells #[.pointer (some ⟨t, 0, none⟩)] 31)).alloc (.cells C 25)).alloc (.cells (rtC rz) 29)) (.bool false) 4
      simp only [World.size_alloc] at e1
      rw [hW, hB]
      exact e1.1
    · have e1 := cellOne (((w.alloc (.cells #[.pointer (some ⟨t, 0, none⟩)] 31)).alloc (.cells C 25)).alloc (.cells (rtC rz) 29)) (.bool false) 4
      simp only [World.size_alloc] at e1
      rw [hW, hB]
      exact e1.2
  have HTL : Hid (t < w.heap.size ∧ M < w.heap.size) := h.lt
  have HW : Hid ((((w.alloc (.cells #[.pointer (some ⟨t, 0, none⟩)] 31)).alloc (.cells C 25)).alloc (.cells (rtC rz) 29)).alloc (.cells #[.bool false] 4) = W ∧ w.heap.size = B) := ⟨hW.symm, hB.symm⟩
  have HIP : Hid (IprAt W (B + 1) V x) := hIP
  have HFP : Hid (FP w t M D R B (B + 1 + 1) (B + 1 + 1 + 1) rz false W) := hFP
  have HSZ : Hid (W.heap.size = B + 4) := hsz
  have QP : Hid _ := prefixes_any V x W
  rw [← hC]
  clear hB hC hW bel hsz hIP hFP h
  refine callsIn_of_wp_marks Tryd.func9 rfl trivial ?_ rfl
  simp only [Tryd.ntmps9, List.size_toArray, List.length_cons, List.length_nil, Nat.reduceAdd, Nat.reduceSub, Array.replicate_succ, Array.replicate_zero, List.push_toArray, List.append_toArray, List.nil_append, List.cons_append]
  gi_wp2_with (first | (refine wpListIn_alloc_rte rfl rfl ?_) | (refine wpListIn_load_ipr (.tmp 3) rfl (w.heap.size + 1) V x rfl (by have h := HIP.out; rw [← HW.out.1, ← HW.out.2] at h; exact h) rfl ?_))
  rw [HW.out.1, HW.out.2]
  refine ⟨trivial, CallsIn.mono (callsIn_wide.2 QP.out) ?_⟩
  rintro e w1 ⟨rfl, hw1⟩
  have b1 : Below W.heap.size W w1 := by rw [hw1]; exact (Below.refl _ _).alloc (Nat.le_refl _) _
  have i1 : IprAt w1 W.heap.size V x := by rw [hw1]; exact ipr_new W V x
  have s1 : w1.heap.size = B + 5 := by rw [hw1, World.size_alloc, HSZ.out]
  obtain ⟨O2, hO2⟩ : ∃ O2, O2 = B + 1 + 1 := ⟨_, rfl⟩
  obtain ⟨O3, hO3⟩ : ∃ O3, O3 = O2 + 1 := ⟨_, rfl⟩
  rw [← hO2, ← hO3] at HFP ⊢
  have HF1 : Hid (FP w t M D R B O2 O3 rz false w1) := HFP.out.ch (L := W.heap.size) (Ch.ofBelow (S := fun _ => False) b1) (fun _ h => h.elim) (by have := HTL.out; have := HSZ.out; have := HW.out.2; omega)
  have HLL : Hid (t < w1.heap.size ∧ M < w1.heap.size ∧ B < w1.heap.size ∧ O2 < w1.heap.size ∧ O3 < w1.heap.size ∧ w.heap.size ≤ w1.heap.size) := by have := HTL.out; have := HW.out.2; show _ ∧ _ ∧ _ ∧ _ ∧ _ ∧ _; omega
  have HI1 : Hid (IprAt w1 W.heap.size V x ∧ W.heap.size < w1.heap.size) := ⟨i1, by rw [s1, HSZ.out]; omega⟩
  obtain ⟨Bi, hBi⟩ : ∃ Bi, Bi = W.heap.size := ⟨_, rfl⟩
  rw [← hBi] at HI1 ⊢
  have HNE : Hid (O2 ≠ O3) := by show _ ≠ _; omega
  have HTO : Hid (¬ t = O2 ∧ ¬ M = O2 ∧ ¬ t = O3 ∧ ¬ M = O3 ∧ ¬ B = O2 ∧ ¬ B = O3 ∧ w.heap.size ≤ O2 ∧ w.heap.size ≤ O3) := by have := HTL.out; have := HW.out.2; show _ ∧ _; omega
  clear QP hw1 b1 i1 s1 HIP HFP hBi HSZ hO2 hO3
  gi_wp2
  refine wpIn_rangeFunc_ownH rfl (by decide) (gf := 22) (lb := #[.pointer (some ⟨Bi, 0, none⟩)]) rfl trivial (enters_of Tryd.func22 (by kernel_rfl) rfl)
    (prefixes_stops _ Bi w1.heap.size V x hv hx w1 HI1.out.2 (Nat.le_refl _) HI1.out.1) belowK_t (belowK_b (Nat.le_refl _)) (Below.refl _ _) (fun _ => rfl)
    (fun pre A => (∀ p ∈ pre, fnd R p.1 = none) ∧ FP w t M D R B O2 O3 rz false A ∧ w1.heap.size ≤ A.heap.size)
    (fun c pre A => c = .ret ∧ ∃ q p r, pre = q ++ [p] ∧ (∀ p ∈ q, fnd R p.1 = none) ∧ fnd R p.1 = some r ∧ FP w t M D R B O2 O3 r true A)
    (fun s A A' row hs hg hr => ⟨hs.1, hs.2.1.ch (L := w1.heap.size) (Ch.ofGrown hg) (fun q e => (hr q e).1) HLL.out, Nat.le_trans hs.2.2 (Ch.ofGrown hg).size⟩)
    (fun c s A A' row hs hg hr => by
      obtain ⟨e, q, p, r, h1, h2, h3, h4⟩ := hs
      exact ⟨e, q, p, r, h1, h2, h3, h4.ch (L := w1.heap.size) (Ch.ofGrown hg) (fun q e => (hr q e).1) HLL.out⟩)
    ⟨(fun p hp => by cases hp), HF1.out, Nat.le_refl _⟩
    (fun p a' A => ∃ Bx, w1.heap.size ≤ Bx ∧ PfxAt A Bx p.1 ∧ a' = { tmps := #[.pointer (some ⟨t, 0, none⟩), .agg C, .pointer (some ⟨B, 0, none⟩), .pointer (some ⟨B + 1, 0, none⟩), .pointer (some ⟨O2, 0, none⟩), .pointer (some ⟨O3, 0, none⟩), .pointer (some ⟨Bx, 0, none⟩), undef, undef, .agg (ipCells V x), .func (.func 22) #[] #[.pointer (some ⟨Bi, 0, none⟩)], .agg (pfC p.1), undef, undef, undef, undef, undef, undef, undef, undef, undef, undef, undef, undef], defers := [] })
    (fun p a' _ A A' row hs hg hr => by
      obtain ⟨Bx, h1, h2, h3⟩ := hs
      refine ⟨Bx, h1, h2.ch (Ch.ofGrown hg) (fun e => ?_), h3⟩
      obtain ⟨_, o, ho, hc⟩ := hr Bx e
      unfold PfxAt at h2
      rw [h2] at ho
      cases ho
      cases hc)
    ?assign ?body ?done ?stop
  case assign =>
    intro l pre p A K hi hK
    rw [fold_one]
    simp only [List.setIfInBounds_toArray, List.set_cons_succ, List.set_cons_zero]
    refine regIn (by kernel_rfl) ?_
    refine wpList_alloc_pfx rfl rfl ?_
    refine wpList_store_pfx (.tmp 6) (.tmp 11) rfl rfl A.heap.size pz p.1 rfl rfl (pfx_new A pz) rfl ?_
    intro A' hR k
    have bz : Below A.heap.size A (A.alloc (.cells (pfC pz) 27)) := (Below.refl _ _).alloc (Nat.le_refl _) _
    have b : Below A.heap.size A A' := bz.trans (k.below (fun q e => by have e' : q = A.heap.size := e; omega) bz.size)
    have hle : w1.heap.size ≤ A.heap.size := hi.2.2
    refine ⟨rfl, hK _ _ (kf_below b) (b.mono hle) ⟨hi.1, hi.2.1.ch (L := w1.heap.size) (Ch.ofBelow (S := fun _ => False) b) (fun _ h => h.elim) HLL.out, Nat.le_trans hi.2.2 b.size⟩ ⟨A.heap.size, hle, hR, rfl⟩⟩
  case body =>
    rintro l pre p a' W hl ⟨rc, hrc⟩ ⟨hpre, hFP, hAs⟩ ⟨Bx, hBx, hPx, rfl⟩ hlen
    obtain ⟨kl, hkl⟩ := kv_key p.1 p.2
    have HK : Hid (keyOf Tryd.prog 27 (.agg (pfC p.1)) = some kl) := hkl
    have HP : Hid (FP w t M D R B O2 O3 rz false W ∧ PfxAt W Bx p.1) := ⟨hFP, hPx⟩
    have HPRE : Hid (∀ p ∈ pre, fnd R p.1 = none) := hpre
    have HLE : Hid (w1.heap.size ≤ W.heap.size) := hAs
    clear hkl hpre hFP hPx hlen hrc hAs
    refine wpIn_block ?_
    refine wpIn_seq ?_
    refine startIn (fun A => FP w t M D R B O2 O3 rz false A ∧ PfxAt A Bx p.1) (by kernel_rfl) (by kernel_rfl) ?_
    obtain ⟨wA, hwA⟩ : ∃ wA, wA = W.drew := ⟨_, rfl⟩
    have bdr : Below W.heap.size W wA := by rw [hwA]; exact (Below.refl _ _).drew
    have hS : FP w t M D R B O2 O3 rz false wA ∧ PfxAt wA Bx p.1 := ⟨HP.out.1.ch (L := w1.heap.size) (Ch.ofBelow (S := fun _ => False) bdr) (fun _ h => h.elim) HLL.out, HP.out.2.below bdr⟩
    have hFA : Hid (FP w t M D R B O2 O3 rz false wA ∧ PfxAt wA Bx p.1) := hS
    rw [← hwA]
    clear hwA
    refine MixH.take 11 0 _ (.pointer (some ⟨t, 0, none⟩)) rfl (by kernel_rfl) (by kernel_rfl) (by kernel_rfl) (by kernel_rfl) (yields_ptr (.tmp 2) rfl ⟨B, 0, none⟩ (.pointer (some ⟨t, 0, none⟩)) rfl rfl (fun A hA => hA.1.ct)) hS (fun a' ha => ?_)
    simp only [Act.put, List.setIfInBounds_toArray, List.set_cons_succ, List.set_cons_zero] at ha
    subst ha
    refine MixH.takes [false, true, true] 9 (by kernel_rfl) (by kernel_rfl) (by decide) (by kernel_rfl) hS (fun K hK => ?_)
    simp only [Mix.pick]
    repeat (go_big_quiet_step (fail))
    refine wpQuiet_nil (hK _ ?_)
    clear hK K
    refine MixH.take 8 3 _ (.map (some M)) rfl (by kernel_rfl) (by kernel_rfl) (by kernel_rfl) (by kernel_rfl) (yields_map (.tmp 15) rfl ⟨t, 0, none⟩ (.map (some M)) rfl rfl (fun A hA => hA.1.tab.c)) hS (fun a' ha => ?_)
    simp only [Act.put, List.setIfInBounds_toArray, List.set_cons_succ, List.set_cons_zero] at ha
    subst ha
    refine MixH.take 7 4 _ (.agg (pfC p.1)) rfl (by kernel_rfl) (by kernel_rfl) (by kernel_rfl) (by kernel_rfl) (yields_pfx (.tmp 6) rfl Bx 0 p.1 rfl rfl (fun A hA => hA.2.all)) hS (fun a' ha => ?_)
    simp only [Act.put, List.setIfInBounds_toArray, List.set_cons_succ, List.set_cons_zero] at ha
    subst ha
    refine MixH.take 6 5 _ (lookV R p.1) rfl (by kernel_rfl) (by kernel_rfl) (by kernel_rfl) (by kernel_rfl) (yields_lookr (.tmp 16) (.tmp 17) rfl t M D R p.1 kl rfl rfl HK.out rfl (fun A hA => hA.1.tab)) hS (fun a' ha => ?_)
    simp only [Act.put, List.setIfInBounds_toArray, List.set_cons_succ, List.set_cons_zero] at ha
    subst ha
    simp only [lookV]
    refine MixH.takes [false, false, false, false, false, false, true, true, true] 3 (by kernel_rfl) (by kernel_rfl) (by decide) (by kernel_rfl) hS (fun K hK => ?_)
    simp only [Mix.pick]
    repeat (go_big_quiet_step (fail))
    refine wpQuiet_nil (hK _ ?_)
    clear hK K
    refine MixH.one [false, false, false, false, false, false, false, false, false, true] 2 9 _ rfl rfl (by kernel_rfl) (by kernel_rfl) (fun K hK => ?_)
    simp only [Mix.pick]
    refine wpList_alloc_rte rfl rfl ?_
    have bq : Below wA.heap.size wA (wA.alloc (.cells (rtC rz) 29)) := (Below.refl _ _).alloc (Nat.le_refl _) _
    have HQ := rte_new wA rz
    replace hS : FP w t M D R B O2 O3 rz false (wA.alloc (.cells (rtC rz) 29)) ∧ PfxAt (wA.alloc (.cells (rtC rz) 29)) Bx p.1 := ⟨hS.1.ch (L := w1.heap.size) (Ch.ofBelow (S := fun _ => False) bq) (fun _ h => h.elim) HLL.out, hS.2.below bq⟩
    have HBQ : Hid (Below wA.heap.size wA (wA.alloc (.cells (rtC rz) 29))) := bq
    clear bq
    go_wp2
    refine ⟨rfl, hK _ _ hS ?_⟩
    clear hK K
    refine MixH.one [false, false, false, false, false, false, false, false, false, false, true] 1 10 _ rfl rfl (by kernel_rfl) (by kernel_rfl) (fun K hK => ?_)
    simp only [Mix.pick]
    refine wpList_store_rte (.tmp 7) (.tmp 19) rfl rfl wA.heap.size rz ((fnd R p.1).getD rz) rfl rfl HQ rfl ?_
    intro wE hRE kE
    have bE : Below wA.heap.size wA wE := HBQ.out.trans (kE.below (fun q e => by have e' : q = wA.heap.size := e; omega) HBQ.out.size)
    replace hS : FP w t M D R B O2 O3 rz false wE ∧ PfxAt wE Bx p.1 := ⟨hFA.out.1.ch (L := w1.heap.size) (Ch.ofBelow (S := fun _ => False) bE) (fun _ h => h.elim) HLL.out, hFA.out.2.below bE⟩
    have HEND : Hid (FP w t M D R B O2 O3 rz false wE ∧ Below W.heap.size W wE ∧ RteAt wE wA.heap.size ((fnd R p.1).getD rz)) := ⟨hS.1, bthen bdr bE, hRE⟩
    clear hRE kE HQ bE HBQ
    go_wp2
    refine ⟨rfl, hK _ _ hS ?_⟩
    clear hK K
    refine MixH.takes [false, false, false, false, false, false, false, false, false, false, false, true] 0 (by kernel_rfl) (by kernel_rfl) (by decide) (by kernel_rfl) hS (fun K hK => ?_)
    simp only [Mix.pick]
    repeat (go_big_quiet_step (fail))
    refine wpQuiet_nil (hK _ ?_)
    clear hK K
    refine MixH.done (by kernel_rfl) ?_
    have HE : Hid (FP w t M D R B O2 O3 rz false wE ∧ Below W.heap.size W wE ∧ RteAt wE wA.heap.size ((fnd R p.1).getD rz)) := HEND.out
    have HWA : Hid (W.heap.size ≤ wA.heap.size) := bdr.size
    clear hS hFA HEND bdr
    obtain ⟨Qb, hQb⟩ : ∃ Qb, Qb = wA.heap.size := ⟨_, rfl⟩
    rw [← hQb] at HE HWA ⊢
    clear hQb
    cases hf : fnd R p.1 with
    | none =>
      rw [hf] at HE
      have HFN : Hid (fnd R p.1 = none) := hf
      clear hf
      simp only [Option.getD_none, Option.isSome_none]
      gi_wp2
      refine ⟨kf_below HE.out.2.1, HE.out.2.1.mono HLE.out, fun y hy => ?_, HE.out.1, Nat.le_trans HLE.out HE.out.2.1.size⟩
      rcases List.mem_append.1 hy with h | h
      · exact HPRE.out y h
      · simp only [List.mem_singleton] at h; subst h; exact HFN.out
    | some r =>
      rw [hf] at HE
      have HFN : Hid (fnd R p.1 = some r) := hf
      clear hf
      simp only [Option.getD_some, Option.isSome_some]
      have hne : O2 ≠ O3 := HNE.out
      gi_wp2_with (first | (refine wpListIn_load_rte (.tmp 7) rfl Qb r rfl HE.out.2.2 rfl ?_) | (refine wpListIn_store_rte (.tmp 4) (.tmp 22) rfl rfl O2 rz r rfl rfl HE.out.1.res rfl ?_))
      intro wS hRS kS
      have cb : wS.cell? ⟨O3, 0, none⟩ = some (.bool false) := kS.cell HE.out.1.cb (fun e => hne e.symm)
      have fb : wS.frozen? ⟨O3, 0, none⟩ = false := (kS.frozen (p := ⟨O3, 0, none⟩) (World.block_lt_of_cell? wE _ HE.out.1.cb) (fun e => hne e.symm)).trans HE.out.1.fb
      have HRS : Hid (RteAt wS O2 r ∧ Ch (fun q => q = O2) wE wS) := ⟨hRS, kS⟩
      clear hRS kS
      gi_wp2
      have kT : Ch (fun q => q = O3) wS (wS.setCell ⟨O3, 0, none⟩ (.bool true)) := (Ch.refl (fun q => q = O3) wS).set _ _ rfl
      have hO := HRS.out.1
      have hlt3 : ∃ o : Obj, wS.heap[O3]? = some o ∧ o.isCells = true := cells_of_cell cb
      have hlt2 : ∃ o : Obj, wE.heap[O2]? = some o ∧ o.isCells = true := ⟨_, HE.out.1.res, rfl⟩
      have hT := HE.out.1.tab
      have hLT := HLL.out
      have htm : ¬ t = O2 ∧ ¬ M = O2 ∧ ¬ t = O3 ∧ ¬ M = O3 ∧ ¬ B = O2 ∧ ¬ B = O3 ∧ w.heap.size ≤ O2 ∧ w.heap.size ≤ O3 := HTO.out
      refine ⟨(kf_below HE.out.2.1).trans ((kf_ch HRS.out.2 (fun q _ e => by have e' : q = O2 := e; subst e'; exact hlt2)).trans (kf_ch kT (fun q _ e => by have e' : q = O3 := e; subst e'; exact hlt3))), rfl, pre, p, r, rfl, HPRE.out, HFN.out, ?_⟩
      refine ⟨(hT.ch HRS.out.2 htm.1 htm.2.1).ch kT htm.2.2.1 htm.2.2.2.1, kT.cell (HRS.out.2.cell HE.out.1.ct htm.2.2.2.2.1) htm.2.2.2.2.2.1, hO.ch kT hne, World.cell?_setCell_same _ _ _ cb, by rw [World.frozen?_setCell]; exact fb, ?_⟩
      exact (HE.out.1.bel.trans (HRS.out.2.below (fun q e => by have e' : q = O2 := e; omega) HE.out.1.bel.size)).trans (kT.below (fun q e => by have e' : q = O3 := e; omega) (Nat.le_trans HE.out.1.bel.size HRS.out.2.size))
  case done =>
    rintro DD xs A hD rfl ⟨hpre, hF, hAs⟩ hK
    have HF : Hid (FP w t M D R B O2 O3 rz false A) := hF
    have HFN : Hid (fIP R V x = none) := fIP_none hpre
    have HKD : Hid (A.heap[DD]? = some (.deferred (some [])) ∧ w1.heap.size ≤ DD) := ⟨hK, hD⟩
    clear hF hK hpre hAs hD
    have hne : O2 ≠ O3 := HNE.out
    gi_wp2_with (first | (refine wpListIn_store_rte (.tmp 4) (.tmp 23) rfl rfl O2 rz rz rfl rfl HF.out.res rfl ?_))
    intro wS hRS kS
    have cb : wS.cell? ⟨O3, 0, none⟩ = some (.bool false) := kS.cell HF.out.cb (fun e => hne e.symm)
    have fb : wS.frozen? ⟨O3, 0, none⟩ = false := (kS.frozen (p := ⟨O3, 0, none⟩) (World.block_lt_of_cell? A _ HF.out.cb) (fun e => hne e.symm)).trans HF.out.fb
    have HRS : Hid (RteAt wS O2 rz ∧ Ch (fun q => q = O2) A wS) := ⟨hRS, kS⟩
    clear hRS kS
    gi_wp2
    have kT : Ch (fun q => q = O3) wS (wS.setCell ⟨O3, 0, none⟩ (.bool false)) := (Ch.refl (fun q => q = O3) wS).set _ _ rfl
    have hLT := HLL.out
    have hTO := HTO.out
    have hKD := HKD.out
    have kk : Ch (fun q => q = O2 ∨ q = O3) A (wS.setCell ⟨O3, 0, none⟩ (.bool false)) := (HRS.out.2.mono (fun q _ h => .inl h)).trans kT (fun q _ h => .inr h)
    have hK' : (wS.setCell ⟨O3, 0, none⟩ (.bool false)).heap[DD]? = some (.deferred (some [])) := (kk.block DD (Array.getElem?_eq_some_iff.1 hKD.1).1 (fun e => by omega)).trans hKD.1
    refine ⟨by simp, .inl ⟨_, _, rfl, run_takeDeferred hK', ?_⟩⟩
    have kD : Ch (fun q => q = DD) (wS.setCell ⟨O3, 0, none⟩ (.bool false)) ((wS.setCell ⟨O3, 0, none⟩ (.bool false)).putObj DD (.deferred none)) := (Ch.ofGrown (grownBy_putObj' _ DD _)).mono (fun q _ h => by simpa using h.symm)
    have hO : RteAt ((wS.setCell ⟨O3, 0, none⟩ (.bool false)).putObj DD (.deferred none)) O2 rz := (HRS.out.1.ch kT hne).ch kD (by omega)
    have hB := kD.cell (World.cell?_setCell_same _ _ _ cb : (wS.setCell ⟨O3, 0, none⟩ (.bool false)).cell? ⟨O3, 0, none⟩ = some (.bool false)) (show ¬ O3 = DD by omega)
    refine ⟨_, results_rte_bool rfl _ _ O2 O3 rz false rfl rfl hO hB, by rw [HFN.out]; rfl, ?_⟩
    exact (HF.out.bel.trans (kk.below (fun q e => by omega) HF.out.bel.size)).trans (kD.below (fun q e => by have e' : q = DD := e; omega) (Nat.le_trans HF.out.bel.size kk.size))
  case stop =>
    rintro DD c pre A hD ⟨j, hj, hpj⟩ ⟨rfl, q, p, r, hpre, hq, hr, hF⟩ hK
    have HF : Hid (FP w t M D R B O2 O3 r true A) := hF
    have HFN : Hid (fIP R V x = some r) := fIP_some hj (hpre.symm.trans hpj) hq hr
    have HKD : Hid (A.heap[DD]? = some (.deferred (some [])) ∧ w1.heap.size ≤ DD) := ⟨hK, hD⟩
    clear hF hK hpre hq hr hpj hj hD
    have hLT := HLL.out
    have hTO := HTO.out
    have hKD := HKD.out
    gi_wp2
    refine ⟨by simp, .inl ⟨_, _, rfl, run_takeDeferred hKD.1, ?_⟩⟩
    have kD : Ch (fun q => q = DD) A (A.putObj DD (.deferred none)) := (Ch.ofGrown (grownBy_putObj' _ DD _)).mono (fun q _ h => by simpa using h.symm)
    have hO : RteAt (A.putObj DD (.deferred none)) O2 r := HF.out.res.ch kD (by omega)
    have hB := kD.cell HF.out.cb (show ¬ O3 = DD by omega)
    refine ⟨_, results_rte_bool rfl _ _ O2 O3 r true rfl rfl hO hB, by rw [HFN.out]; rfl, ?_⟩
    exact HF.out.bel.trans (kD.below (fun q e => by have e' : q = DD := e; omega) HF.out.bel.size)
end Go.Proofs.YtdjbfhllialinaaDoor
