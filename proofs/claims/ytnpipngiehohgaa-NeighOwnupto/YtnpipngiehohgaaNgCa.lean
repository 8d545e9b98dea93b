/-
  Layer 15: a cache in memory: its own block, its map, its entries, their lines; New.
-/
import Derived.Test.YtnpipngiehohgaaNgOr
namespace Go.Proofs.Ytnpipngiehohgaa
open Go.RowKit Go.Maps

def EV.kp (e : EV) : KP := ⟨e.n.k, e.P⟩
def fE (E : List EV) (k : KV) : Option EV := E.find? (fun e => eqP e.n.k k)
abbrev LnAt (w : World) (v : Value) (l : List Int) : Prop := w.ownsRow 0 3 1 v l.length (l.map (Value.int .i64))
structure CA (w : World) (t M : Nat) (c : CF) (E : List EV) : Prop where
  cb : CchAt w t c M
  ma : ∃ D, MA w M D (E.map EV.kp)
  en : ∀ e ∈ E, EntAt w e
  li : ∀ e ∈ E, LnAt w e.lv e.n.ln
  pd : E.Pairwise (fun a b => a.P ≠ b.P)
  ld : E.Pairwise (fun a b => ∀ g, a.lv.ownBlock = some g → b.lv.ownBlock ≠ some g)
/-- a cache's blocks -/
def CB (t M : Nat) (E : List EV) (q : Nat) : Prop := q = t ∨ q = M ∨ ∃ e ∈ E, q = e.P ∨ e.lv.ownBlock = some q
theorem LnAt.kind {w : World} {v : Value} {l : List Int} (h : LnAt w v l) : ∀ g, v.ownBlock = some g → ∃ c, w.heap[g]? = some (.cells c 3 (0, 0)) := Go.Proofs.Ytnpipngiehohgaa.kind h
theorem LnAt.form {w : World} {v : Value} {l : List Int} (h : LnAt w v l) : ∃ a c, v = .slice a l.length c := by
  rcases h.2 with ⟨rfl, h0⟩ | ⟨g, cap, cur, rfl, _⟩
  · exact ⟨none, 0, by rw [h0]⟩
  · exact ⟨_, _, rfl⟩
theorem fnd_fE (E : List EV) (k : KV) : fnd (E.map EV.kp) k = (fE E k).map EV.kp := by
  unfold fnd fE
  rw [List.find?_map]
  rfl
theorem CA.dj {w : World} {t M : Nat} {c : CF} {E : List EV} (h : CA w t M c E) : E.Pairwise (fun a b => eqP a.n.k b.n.k = false) := by
  obtain ⟨D, hD⟩ := h.ma
  exact List.pairwise_map.1 hD.dj
theorem CA.wf {w : World} {t M : Nat} {c : CF} {E : List EV} (h : CA w t M c E) : ∀ e ∈ E, e.n.k.Wf := fun e he => by
  obtain ⟨D, hD⟩ := h.ma
  exact hD.wf e.kp (List.mem_map_of_mem he)
theorem fE_mem {E : List EV} (dj : E.Pairwise (fun a b => eqP a.n.k b.n.k = false)) {e : EV} (he : e ∈ E) {k : KV} (hk : eqP e.n.k k = true) : fE E k = some e := by
  induction E with
  | nil => cases he
  | cons a E ih =>
    obtain ⟨d1, d2⟩ := List.pairwise_cons.1 dj
    unfold fE at ih ⊢
    rw [List.find?_cons]
    rcases List.mem_cons.1 he with rfl | h
    · rw [hk]
    · have : eqP a.n.k k = false := by
        have h1 := d1 e h
        rw [eqP_comm] at h1
        rw [eqP_comm, ← eqP_left hk]
        exact h1
      rw [this]
      exact ih d2 h
theorem fE_some {E : List EV} {k : KV} {e : EV} (h : fE E k = some e) : e ∈ E ∧ eqP e.n.k k = true := by
  unfold fE at h
  exact ⟨List.mem_of_find?_eq_some h, by simpa using List.find?_some h⟩
theorem CA.tlt {w : World} {t M : Nat} {c : CF} {E : List EV} (h : CA w t M c E) : ∀ q, CB t M E q → q < w.heap.size := by
  rintro q (rfl | rfl | ⟨e, he, rfl | hq⟩)
  · exact CchAt.lt h.cb
  · obtain ⟨D, hD⟩ := h.ma; exact hD.lt
  · exact (h.en e he).lt
  · obtain ⟨cc, hc⟩ := (h.li e he).kind q hq
    exact (Array.getElem?_eq_some_iff.1 hc).1
theorem CA.ch {S : Nat → Prop} {w w' : World} {t M : Nat} {c : CF} {E : List EV} (h : CA w t M c E) (k : Ch S w w') (hS : ∀ q, CB t M E q → ¬ S q) : CA w' t M c E := by
  refine ⟨CchAt.ch h.cb k (hS t (.inl rfl)), ?_, fun e he => (h.en e he).ch k (hS _ (.inr (.inr ⟨e, he, .inl rfl⟩))), fun e he => k.owns (h.li e he) (fun g hg => hS g (.inr (.inr ⟨e, he, .inr hg⟩))), h.pd, h.ld⟩
  obtain ⟨D, hD⟩ := h.ma
  exact ⟨D, hD.ch k (hS M (.inr (.inl rfl)))⟩
theorem CA.below {w w' : World} {t M : Nat} {c : CF} {E : List EV} (h : CA w t M c E) (k : Below w.heap.size w w') : CA w' t M c E := h.ch (Ch.ofBelow (S := fun _ => False) k) (fun _ _ => id)
/-- the kinds of blocks are apart -/
theorem CA.mblk {w : World} {t M : Nat} {c : CF} {E : List EV} (h : CA w t M c E) : ∃ es ck, w.heap[M]? = some (.map es ck) := by
  obtain ⟨D, hD⟩ := h.ma
  obtain ⟨es, ck, hb, _⟩ := hD.mo
  exact ⟨es, ck, hb⟩
theorem CA.nt {w : World} {t M : Nat} {c : CF} {E : List EV} (h : CA w t M c E) : t ≠ M ∧ (∀ e ∈ E, e.P ≠ t ∧ e.P ≠ M ∧ ∀ f ∈ E, f.lv.ownBlock ≠ some e.P) ∧ ∀ e ∈ E, e.lv.ownBlock ≠ some t ∧ e.lv.ownBlock ≠ some M := by
  obtain ⟨es, ck, hM⟩ := h.mblk
  have hT : w.heap[t]? = some (.cells (chC c M) 102 (0, 0)) := h.cb
  have d1 : (102 : Nat) ≠ 105 := by decide
  have d2 : (102 : Nat) ≠ 3 := by decide
  have d3 : (105 : Nat) ≠ 3 := by decide
  refine ⟨fun e => ?_, fun e he => ⟨fun q => ?_, fun q => ?_, fun f hf q => ?_⟩, fun e he => ⟨fun q => ?_, fun q => ?_⟩⟩
  · rw [e, hM] at hT; cases hT
  · have h1 := h.en e he
    unfold EntAt at h1
    rw [q, hT] at h1
    simp only [Option.some.injEq, Obj.cells.injEq] at h1
    exact d1 h1.2.1
  · have h1 := h.en e he
    unfold EntAt at h1
    rw [q, hM] at h1; cases h1
  · have h1 := h.en e he
    unfold EntAt at h1
    obtain ⟨cc, hc⟩ := (h.li f hf).kind _ q
    rw [hc] at h1
    simp only [Option.some.injEq, Obj.cells.injEq] at h1
    exact d3 h1.2.1.symm
  · obtain ⟨cc, hc⟩ := (h.li e he).kind _ q
    rw [hT] at hc
    simp only [Option.some.injEq, Obj.cells.injEq] at hc
    exact d2 hc.2.1
  · obtain ⟨cc, hc⟩ := (h.li e he).kind _ q
    rw [hM] at hc; cases hc
theorem run_buildcch (c : CF) (M : Nat) (w : World) : (Instr.build 102 #[(0, .agg (cfC c)), (1, .map (some M))]).run Try.prog w = .ok (.agg (chC c M)) w := by kernel_rfl
theorem wpList_build_cch {ops : Array Oper} {rest : List Oper} {o : Oper} {a : Act} {w : World} {Q : Exit → Act → World → Prop} (x y : Operand) (ho : o.op = .build 102 #[(0, x), (1, y)]) (c : CF) (M : Nat) (hx : a.eval x = .agg (cfC c)) (hy : a.eval y = .map (some M)) (hw : Region.wanted o (yielded ops a.tmps) = true)
    (h : wpList Try.prog ops Q rest (a.put o.dst (.agg (chC c M))) w) : wpList Try.prog ops Q (o :: rest) a w := by
  refine wpList_step fun K hK => ?_
  rw [if_pos hw]
  have hrun : (execOp a.eval o).run Try.prog w = .ok (.value (.agg (chC c M))) w := by
    obtain ⟨dst, op, type, pos, after, guard⟩ := o
    simp only at ho
    subst ho
    simp only [execOp, Sem.run_bind, List.map_toArray, List.map_cons, List.map_nil, hx, hy, run_buildcch c M w, Result.andThen_ok]
    rfl
  unfold Oper.wp
  rw [hrun]
  exact hK _ _ h
set_option maxHeartbeats 1600000 in
set_option maxRecDepth 100000 in
theorem new_any (c : CF) (w : World) : Calls Try.prog 44 #[.agg (cfC c)] w fun e w' => Below w.heap.size w w' ∧ ((cfB c = true ∧ ∃ t M, e = .returned (.tuple #[.pointer (some ⟨t, 0, none⟩), .int .i64 0]) ∧ CA w' t M c [] ∧ w.heap.size ≤ t ∧ w.heap.size ≤ M) ∨ (cfB c = false ∧ e = .returned (.tuple #[.pointer none, .int .i64 150]))) := by
  have hmm := @run_makeMap Try.prog
  have hb := cfg_new w c
  have bel : Below w.heap.size w (w.alloc (.cells (cfC c) 23)) := (Below.refl _ _).alloc (Nat.le_refl _) _
  obtain ⟨C, hC⟩ : ∃ C, C = cfC c := ⟨_, rfl⟩
  obtain ⟨W, hW⟩ : ∃ W, W = w.alloc (.cells (cfC c) 23) := ⟨_, rfl⟩
  rw [← hW] at hb bel
  obtain ⟨B, hB⟩ : ∃ B, B = w.heap.size := ⟨_, rfl⟩
  rw [← hB] at hb
  have HBX : Hid (CfgAt W B c) := hb
  rw [← hC] at hW ⊢
  have HB : Hid (w.heap.size = B) := hB.symm
  have HBL : Hid (Below w.heap.size w W) := bel
  have HW : Hid (w.alloc (.cells C 23) = W) := hW.symm
  have QC : Hid _ := cfMay_any c W
  obtain ⟨b, hbb⟩ : ∃ b, cfB c = b := ⟨_, rfl⟩
  rw [hbb] at QC
  have HBB : Hid (cfB c = b) := hbb
  clear hb hW hB hC bel hbb
  go_enter Try.func44, Try.ntmps44
  go_upto_region 1 with fail
  rw [HB.out, HW.out]
  go_wp2_with (first | (refine wpList_load_cfg (.tmp 1) rfl B c rfl HBX.out rfl ?_))
  refine Calls.mono QC.out ?_
  rintro e w1 ⟨rfl, b1⟩
  have H1 : Hid (CfgAt w1 B c ∧ Below w.heap.size w w1) := ⟨HBX.out.below b1, bthen HBL.out b1⟩
  clear b1 QC
  cases b with
  | false =>
    go_wp2_with fail
    go_ret2
    exact ⟨H1.out.2, .inr ⟨HBB.out, rfl⟩⟩
  | true =>
    go_wp2_with (first | (refine wpList_load_cfg (.tmp 1) rfl B c rfl H1.out.1 rfl ?_) | (refine wpList_build_cch (.tmp 7) (.tmp 8) rfl c w1.heap.size rfl rfl rfl ?_))
    go_ret2
    have hM : ((w1.alloc (.map #[] 0)).alloc (.cells (chC c w1.heap.size) 102)).ownsMap Try.prog 98 anyE w1.heap.size 0 (.map []) := (World.ownsMap_made w1 _ _ _).alloc _
    have hT : CchAt ((w1.alloc (.map #[] 0)).alloc (.cells (chC c w1.heap.size) 102)) (w1.heap.size + 1) c w1.heap.size := by
      have := heap_alloc_new (w1.alloc (.map #[] 0)) (.cells (chC c w1.heap.size) 102)
      rw [World.size_alloc] at this
      exact this
    have hsz := H1.out.2.size
    refine ⟨(bthen H1.out.2 ((Below.refl _ _).alloc (Nat.le_refl _) _)).trans (((Below.refl _ _).alloc (Nat.le_refl _) _).mono (by simp; omega)), .inl ⟨HBB.out, w1.heap.size + 1, w1.heap.size, rfl, ⟨hT, ⟨.map [], hM, rfl, ?_, List.Pairwise.nil, (fun r hr => by cases hr), (fun l hl => by cases hl)⟩, (fun e he => by cases he), (fun e he => by cases he), List.Pairwise.nil, List.Pairwise.nil⟩, by omega, by omega⟩⟩
    intro p l _
    exact ⟨rfl, rfl⟩
end Go.Proofs.Ytnpipngiehohgaa
