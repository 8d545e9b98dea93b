/-
  The walk of ViewAgain.
-/
import Derived.Test.YtebpaolniemfgabOpenOps
import Derived.Test.YtebpaolniemfgabAnsweredAll
import Derived.Test.YtebpaolniemfgabFilled
namespace Go.Proofs.Ytebpaolniemfgab.viewAgain
open Go.RowKit

theorem abs_rem (x m : Int) (hm : 0 < m) : ∃ n : Nat, (n : Int) < m ∧ (x.tmod m = (n : Int) ∨ (x.tmod m = -(n : Int) ∧ 1 ≤ n)) := by
  have h1 := Int.tmod_lt_of_pos x hm
  have h2 : -m < x.tmod m := Int.lt_tmod_of_pos x hm
  by_cases h : 0 ≤ x.tmod m
  · exact ⟨(x.tmod m).toNat, by omega, .inl (by omega)⟩
  · exact ⟨(-(x.tmod m)).toNat, by omega, .inr (by omega)⟩

theorem script_cells {w W : World} {b off : Nat} {ops : List OpV} (hs : Script w (some ⟨b, off, none⟩) ops) (hB : Below w.heap.size w W) (i : Nat) (o : OpV) (ho : ops[i]? = some o) :
    W.cell? ⟨b, off + i * 6, none⟩ = some (.int .i64 o.kd) ∧ W.cell? ⟨b, off + i * 6 + 1, none⟩ = some (.slice o.ba o.bl o.bc) ∧ W.cell? ⟨b, off + i * 6 + 2, none⟩ = some (.int .i64 o.at') ∧
    W.cell? ⟨b, off + i * 6 + 3, none⟩ = some (.int .i64 o.n) ∧ W.cell? ⟨b, off + i * 6 + 4, none⟩ = some (.slice o.wa o.wl o.wc) ∧ W.cell? ⟨b, off + i * 6 + 5, none⟩ = some (.slice o.va o.vl o.vc) := by
  rcases hs.old hB with hnil | ⟨b', off', e, _, hc⟩
  · rw [hnil] at ho; simp at ho
  · simp only [Option.some.injEq, Addr.mk.injEq, and_true] at e
    obtain ⟨rfl, rfl⟩ := e
    have h := (hc i o ho).2
    refine ⟨?_, ?_, ?_, ?_, ?_, ?_⟩
    · rcases h 0 with h | h
      · rw [← Nat.add_zero (off + i * 6), h]; rfl
      · omega
    · rcases h 1 with h | h
      · rw [h]; rfl
      · omega
    · rcases h 2 with h | h
      · rw [h]; rfl
      · omega
    · rcases h 3 with h | h
      · rw [h]; rfl
      · omega
    · rcases h 4 with h | h
      · rw [h]; rfl
      · omega
    · rcases h 5 with h | h
      · rw [h]; rfl
      · omega
theorem script_ok {w : World} {a : Option Addr} {ops : List OpV} (hs : Script w a ops) (i : Nat) (o : OpV) (ho : ops[i]? = some o) : o.ok w := by
  rcases hs with hnil | ⟨b', off', e, _, hc⟩
  · rw [hnil] at ho; simp at ho
  · exact (hc i o ho).1
theorem fillI_toI (bs : List Nat) (n : Nat) (h : ∀ x ∈ bs, x < 256) : ∃ cs : List Nat, cs.length = n ∧ fillI 0 (toI bs) n = toI cs ∧ ∀ x ∈ cs, x < 256 := by
  refine ⟨(List.range n).map (fun i => if i < bs.length then bs.getD i 0 else 0), by simp, ?_, ?_⟩
  · unfold fillI
    rw [toI_len]
    simp only [toI, List.map_map]
    refine List.map_congr_left ?_
    intro i _
    have e := toI_getD bs i
    unfold toI at e
    by_cases hi : i < bs.length
    · simp only [hi, if_true, Function.comp]; exact e
    · simp only [hi, if_false, Function.comp]; rfl
  · intro x hx
    obtain ⟨i, _, rfl⟩ := List.mem_map.1 hx
    by_cases hi : i < bs.length
    · rw [if_pos hi]
      refine h _ ?_
      simp [List.getD, hi]
    · rw [if_neg hi]; decide
theorem below_grown {A B : World} (h : Below A.heap.size A B) (r : Option Nat) : A.grownBy B r := ⟨h.os, h.tape, h.output, h.size, fun k hk _ => h.block k hk⟩
theorem own_below {A B : World} {base : Nat} {e : TypeId} {v : Value} {m : Nat} {xs : List Value} (h : A.ownsRow base e 1 v m xs) (hB : Below A.heap.size A B) : B.ownsRow base e 1 v m xs :=
  h.kept (below_grown hB none) (by cases hv : v.ownBlock <;> simp)
theorem owns_seg_at {w : World} {base : Nat} {e : TypeId} {g : Option Addr} {n c : Nat} {k : IntKind} {zs : List Int} (h : w.ownsRow base e 1 (.slice g n c) n (zs.map (Value.int k))) : Seg k w g zs := by
  obtain ⟨a, c', e1, hs, _⟩ := owns_seg h
  simp only [Value.slice.injEq, true_and] at e1
  rw [e1.1]
  exact hs
theorem set_alloc_cell {A B : World} {n j s : Nat} {v : Value} {X : Obj} (hg : ((A.setCell ⟨n, j, none⟩ v).alloc X).grownBy B (some s)) (hns : n ≠ s) (hn : n < A.heap.size) {i : Nat} {u : Value} (hij : j ≠ i) (hc : A.cell? ⟨n, i, none⟩ = some u) : B.cell? ⟨n, i, none⟩ = some u := by
  refine hg.cell ?_ (by simpa using hns)
  rw [World.cell?_alloc_past _ _ _ (by simpa using hn), World.cell?_setCell_other _ _ _ _ (by simp only [ne_eq, Addr.mk.injEq, true_and, and_true]; exact hij)]
  exact hc
theorem set_alloc_same {A B : World} {n j s : Nat} {v : Value} {X : Obj} (hg : ((A.setCell ⟨n, j, none⟩ v).alloc X).grownBy B (some s)) (hns : n ≠ s) (hn : n < A.heap.size) {u : Value} (hc : A.cell? ⟨n, j, none⟩ = some u) : B.cell? ⟨n, j, none⟩ = some v := by
  refine hg.cell ?_ (by simpa using hns)
  rw [World.cell?_alloc_past _ _ _ (by simpa using hn)]
  exact World.cell?_setCell_same _ _ _ hc
theorem set_alloc_frozen {A B : World} {n j s : Nat} {v : Value} {X : Obj} (hg : ((A.setCell ⟨n, j, none⟩ v).alloc X).grownBy B (some s)) (hns : n ≠ s) (hn : n < A.heap.size) (hf : ∀ i, A.frozen? ⟨n, i, none⟩ = false) (i : Nat) : B.frozen? ⟨n, i, none⟩ = false := by
  have hb := hg.block n (by simp; omega) (by simp; omega)
  rw [World.frozen?_of_block (w := (A.setCell ⟨n, j, none⟩ v).alloc X) (a := ⟨n, i, none⟩) hb]
  have h2 : ((A.setCell ⟨n, j, none⟩ v).alloc X).heap[n]? = (A.setCell ⟨n, j, none⟩ v).heap[n]? := Below.heap_alloc _ _ _ (by simpa using hn)
  rw [World.frozen?_of_block (w := A.setCell ⟨n, j, none⟩ v) (a := ⟨n, i, none⟩) h2]
  simpa using hf i
theorem keep_set {A B : World} {base n j s : Nat} {u : Value} {X : Obj} {e : TypeId} {v : Value} {m : Nat} {xs : List Value} (h : A.ownsRow base e 1 v m xs) (hb : n < base) (hs : s = A.heap.size) (hg : ((A.setCell ⟨n, j, none⟩ u).alloc X).grownBy B (some s)) : B.ownsRow base e 1 v m xs := by
  have h1 := (ownsRow_setCell_below h (a := ⟨n, j, none⟩) hb u).alloc X
  refine h1.kept hg ?_
  cases hv : v.ownBlock with
  | none => exact .inl rfl
  | some b =>
    refine .inr ?_
    have := (h.lt b hv).2
    simp
    omega
theorem made_zero (k : IntKind) (n : Nat) : (madeCells (Value.int k 0).cells (n * 1)).toList = (List.replicate n (0 : Int)).map (Value.int k) := by
  rw [show (Value.int k 0).cells = #[Value.int k 0] from rfl, toList_madeCells_one, Nat.mul_one]
  simp

set_option maxRecDepth 100000 in
set_option maxHeartbeats 3200000 in
theorem walk (w : World) (size : Int) (_w0 : (Lit.int .i64 size).wf = true) (few : Int) (_w1 : (Lit.int .i64 few).wf = true) (a2 : Option Addr) (len2 cap2 : Nat) (ops : List OpV) (hl : ops.length = len2) (hs : Script w a2 ops) (hn : len2 ≤ 1048576) :
    Calls Try.prog 5 #[.int .i64 size, .int .i64 few, .slice a2 len2 cap2] w fun e w' => e = .returned (.bool true) ∧ Below w.heap.size w w' := by
  subst hl
  obtain ⟨sz, hsz4, hsz⟩ := abs_rem size 400 (by decide)
  obtain ⟨fw, hfw4, hfw⟩ := abs_rem few 40 (by decide)
  obtain ⟨i0, hi, hz0, hz1, hz2⟩ := info_parts Try.infoInt
  obtain ⟨j0, gi, gz0, gz1, gz2⟩ := info_parts Try.infoByte
  rcases hsz with hsz | ⟨hsz, hsz1⟩ <;> rcases hfw with hfw | ⟨hfw, hfw1⟩
  all_goals
    go_enter Try.func5, Try.ntmps5
    go_wp2_with (first
      | (at_make; refine wpList_make_full _ rfl (.tmp 28) (.tmp 28) 22 rfl w.heap.size 5 j0 (.int .u8 0) 1 Try.underlying22 gi gz0 gz1 .i64 .i64 _ _ sz rfl rfl rfl rfl (by rw [gz2]; omega) (by unfold maxLen; omega) (Nat.le_refl _) ?_; intro w1 ho1 hg1)
      | (at_make; refine wpList_make_full _ rfl (.tmp 30) (.tmp 30) 52 rfl w.heap.size 3 i0 (.int .i64 0) 1 Try.underlying52 hi hz0 hz1 .i64 .i64 _ _ fw rfl rfl rfl rfl (by rw [hz2]; omega) (by unfold maxLen; omega) hg1.size ?_; intro w2 ho2 hg2)
      | (at_make; refine wpList_make_full _ rfl (.tmp 32) (.tmp 32) 52 rfl w.heap.size 3 i0 (.int .i64 0) 1 Try.underlying52 hi hz0 hz1 .i64 .i64 _ _ fw rfl rfl rfl rfl (by rw [hz2]; omega) (by unfold maxLen; omega) (Nat.le_trans hg1.size hg2.size) ?_; intro w3 ho3 hg3))
    rw [made_zero] at ho1 ho2 ho3
    have l1 : w.heap.size < w1.heap.size := (ho1.lt _ rfl).2
    have l2 : w1.heap.size < w2.heap.size := (ho2.lt _ rfl).2
    have l3 : w2.heap.size < w3.heap.size := (ho3.lt _ rfl).2
    have k1 := (ho1.kept hg2 (.inr (by simp [Value.ownBlock]))).kept hg3 (.inr (by simp [Value.ownBlock]))
    have k2 := ho2.kept hg3 (.inr (by simp [Value.ownBlock]))
    have hB3 : Below w.heap.size w w3 := (((Below.refl _ _).grown hg1 (Nat.le_refl _) (by intro k hk; cases hk)).grown hg2 hg1.size (by intro k hk; cases hk)).grown hg3 (Nat.le_trans hg1.size hg2.size) (by intro k hk; cases hk)
    obtain ⟨g2, hg2e⟩ : ∃ g, g = w1.heap.size := ⟨_, rfl⟩
    obtain ⟨g3, hg3e⟩ : ∃ g, g = w2.heap.size := ⟨_, rfl⟩
    rw [← hg2e] at k2 l1 l2 ⊢
    rw [← hg3e] at ho3 l2 l3 ⊢
    clear hg2e hg3e hg1 hg2 hg3 ho1 ho2
    go_loopw [10] (fun ix wr => ∃ (k : Nat) (xs ys zs : List Int), k ≤ 2 * ops.length ∧ ix = .int .i64 k ∧ wr.ownsRow w.heap.size 5 1 (.slice (some ⟨w.heap.size, 0, none⟩) sz sz) sz (xs.map (Value.int .u8)) ∧
        wr.ownsRow w.heap.size 3 1 (.slice (some ⟨g2, 0, none⟩) fw fw) fw (ys.map (Value.int .i64)) ∧ wr.ownsRow w.heap.size 3 1 (.slice (some ⟨g3, 0, none⟩) fw fw) fw (zs.map (Value.int .i64)) ∧ Below w.heap.size w wr)
      (fun ix _ => 2 * ops.length - (intOf ix).toNat)
    case atStart => exact ⟨0, _, _, _, Nat.zero_le _, rfl, k1, k2, ho3, hB3⟩
    case round =>
      obtain ⟨k, xs, ys, zs, hk, rfl, hor, how, hov, hbel⟩ := hrel
      clear k1 k2 ho3 hB3
      have lg3 : g3 < wr.heap.size := (hov.lt _ rfl).2
      by_cases hlt : k < 2 * ops.length
      · have hil : k / 2 < ops.length := by omega
        have hjl : (k / 2 + k % 2) % ops.length < ops.length := Nat.mod_lt _ (by omega)
        obtain ⟨o, ho⟩ : ∃ o, ops[k / 2]? = some o := ⟨ops[k / 2], by simp [hil]⟩
        obtain ⟨f, hf⟩ : ∃ f, ops[(k / 2 + k % 2) % ops.length]? = some f := ⟨ops[(k / 2 + k % 2) % ops.length], by simp [hjl]⟩
        have oko := script_ok hs _ o ho
        have okf := script_ok hs _ f hf
        obtain ⟨b, off, rfl⟩ : ∃ b off, a2 = some ⟨b, off, none⟩ := by
          rcases hs with hnil | ⟨b, off, e, _, _⟩
          · rw [hnil] at hil; simp at hil
          · exact ⟨b, off, e⟩
        have HSF : Hid (∀ W, Below w.heap.size w W → _) := fun W hB => script_cells hs hB _ f hf
        have HSO : Hid (∀ W, Below w.heap.size w W → _) := fun W hB => script_cells hs hB _ o ho
        obtain ⟨q0, q1, q2, q3, q4, q5⟩ := HSF.out wr hbel
        have hlen0 : ¬ ops.length = 0 := by omega
        have hj1 : (0 : Int) ≤ ((k : Int) / 2 + (k : Int) % 2) % (ops.length : Int) := Int.emod_nonneg _ (by omega)
        have hj2 : ((k : Int) / 2 + (k : Int) % 2) % (ops.length : Int) < (ops.length : Int) := Int.emod_lt_of_pos _ (by omega)
        clear ho hf
        have hsz0 := hbel.size
        have inb : In w.heap.size f.ba f.bl := by have := okf.b.lt; rwa [toI_len, okf.bl] at this
        have inw : In w.heap.size f.wa f.wl := by have := okf.wsg.lt; rwa [okf.wl] at this
        have inv : In w.heap.size f.va f.vl := by have := okf.v.lt; rwa [okf.vl] at this
        have tb : Hid ((toI f.bs).length = f.bl) := by show _ = _; rw [toI_len]; exact okf.bl
        have al : ∀ X, Below wr.heap.size wr (wr.alloc X) := fun X => (Below.refl _ _).alloc (Nat.le_refl _) X
        have fb := okf.b2
        have fw2 := okf.w2
        have fv2 := okf.v2
        go_wp2_with fail
        refine (filledBy_any w.heap.size sz f.ba f.bl f.bc (toI f.bs) xs w.heap.size _ tb.out ((okf.b.old hbel).old (al _)) inb (hor.alloc _) (by omega) fb).mono ?_
        rintro e w4 ⟨rfl, ob4, hg4⟩
        have c4 : w4.cell? ⟨wr.heap.size, 4, none⟩ = some (.slice f.wa f.wl f.wc) := hg4.cell (by simp [go_sem]) (by simp; omega)
        have c5 : w4.cell? ⟨wr.heap.size, 5, none⟩ = some (.slice f.va f.vl f.vc) := hg4.cell (by simp [go_sem]) (by simp; omega)
        have ow4 := (how.alloc _).kept hg4 (.inr (by simp [Value.ownBlock]; omega))
        have ov4 := (hov.alloc _).kept hg4 (.inr (by simp [Value.ownBlock]; omega))
        have hB4 : Below w.heap.size w w4 := (hbel.alloc hbel.size _).grown hg4 (by simp; omega) (by intro k hk; cases hk; exact Nat.le_refl _)
        have z4 : wr.heap.size < w4.heap.size := by have := hg4.size; simp at this; omega
        clear hor how hov hg4
        go_wp2_with fail
        refine (filledInts_any g2 fw f.wa f.wl f.wc f.ws ys 8 w.heap.size _ okf.wl (okf.wsg.old hB4) (inw.mono (by omega)) ow4 (by omega) fw2).mono ?_
        rintro e w5 ⟨rfl, ow5, hg5⟩
        have d5 : w5.cell? ⟨wr.heap.size, 5, none⟩ = some (.slice f.va f.vl f.vc) := hg5.cell c5 (by simp; omega)
        have ob5 := ob4.kept hg5 (.inr (by simp [Value.ownBlock]; omega))
        have ov5 := ov4.kept hg5 (.inr (by simp [Value.ownBlock]; omega))
        have hB5 : Below w.heap.size w w5 := hB4.grown hg5 hB4.size (by intro k hk; cases hk; omega)
        have z5 : wr.heap.size < w5.heap.size := by have := hg5.size; omega
        clear c4 c5 ow4 ov4 ob4 hg5
        go_wp2_with fail
        refine (filledInts_any g3 fw f.va f.vl f.vc f.vs zs 1 w.heap.size _ okf.vl (okf.v.old hB5) (inv.mono (by omega)) ov5 (by omega) fv2).mono ?_
        rintro e w6 ⟨rfl, ov6, hg6⟩
        have ob6 := ob5.kept hg6 (.inr (by simp [Value.ownBlock]; omega))
        have ow6 := ow5.kept hg6 (.inr (by simp [Value.ownBlock]; omega))
        have hB6 : Below w.heap.size w w6 := hB5.grown hg6 hB5.size (by intro k hk; cases hk; omega)
        clear d5 ow5 ov5 ob5 hg6 q0 q1 q2 q3 q4 q5 HSF
        obtain ⟨p0, p1, p2, p3, p4, p5⟩ := HSO.out w6 hB6
        have sb6 := owns_seg_at ob6
        have sw6 := owns_seg_at ow6
        have sv6 := owns_seg_at ov6
        obtain ⟨cb, hcl, hce, hc256⟩ := fillI_toI f.bs sz okf.b256
        have HCL : Hid (cb.length = sz) := hcl
        have nb : Hid ((fillI 0 (toI f.bs) sz).length = sz) := fillI_len _ _ _
        rw [hce] at sb6 nb ob6
        clear hcl hce
        have nw : Hid ((fillI 8 f.ws fw).length = fw) := fillI_len _ _ _
        have nv : Hid ((fillI 1 f.vs fw).length = fw) := fillI_len _ _ _
        obtain ⟨xw, hxw⟩ : ∃ xw, xw = fillI 8 f.ws fw := ⟨_, rfl⟩
        obtain ⟨xv, hxv⟩ : ∃ xv, xv = fillI 1 f.vs fw := ⟨_, rfl⟩
        rw [← hxw] at sw6 nw ow6
        rw [← hxv] at sv6 nv ov6
        clear hxw hxv
        have HE : Hid (∀ (W : World) (t : TypeId) (b0 sx : Nat), W.heap.size = sx → b0 ≤ sx → (W.alloc (.cells #[] t)).ownsRow b0 t 1 (.slice (some ⟨sx, 0, none⟩) 0 0) 0 []) := fun W t b0 sx h1 h2 => by
          subst h1
          exact World.ownsRow_made W #[] 0 h2 (Nat.zero_le _) rfl
        have al6 : ∀ X Y, Below w6.heap.size w6 ((w6.alloc X).alloc Y) := fun X Y => ((Below.refl _ _).alloc (Nat.le_refl _) X).alloc (by simp) Y
        go_wp2_with (at_builtin; refine wpList_append_seg rfl (.tmp 69) (.tmp 70) 22 rfl (w6.heap.size + 1) 5 j0 (.int .u8 0) 1 Try.underlying22 gi gz0 gz1 gz2 rfl (.slice (some ⟨w6.heap.size + 1, 0, none⟩) 0 0) 0 [] rfl (HE.out _ _ _ _ (by simp) (Nat.le_refl _)) .u8 (some ⟨w.heap.size, 0, none⟩) sz sz (toI cb) rfl nb.out (sb6.old (al6 _ _)) (by unfold maxLen; omega) (by omega) (by simp) ?_)
        intro v8 w8 ho8 hg8
        have b80 : w8.cell? ⟨w6.heap.size, 0, none⟩ = some (.int .i64 o.kd) := hg8.cell (by simp [go_sem]) (by simp [Value.ownBlock])
        have b81 : w8.cell? ⟨w6.heap.size, 1, none⟩ = some (.slice o.ba o.bl o.bc) := hg8.cell (by simp [go_sem]) (by simp [Value.ownBlock])
        have b82 : w8.cell? ⟨w6.heap.size, 2, none⟩ = some (.int .i64 o.at') := hg8.cell (by simp [go_sem]) (by simp [Value.ownBlock])
        have b83 : w8.cell? ⟨w6.heap.size, 3, none⟩ = some (.int .i64 o.n) := hg8.cell (by simp [go_sem]) (by simp [Value.ownBlock])
        have b84 : w8.cell? ⟨w6.heap.size, 4, none⟩ = some (.slice o.wa o.wl o.wc) := hg8.cell (by simp [go_sem]) (by simp [Value.ownBlock])
        have b85 : w8.cell? ⟨w6.heap.size, 5, none⟩ = some (.slice o.va o.vl o.vc) := hg8.cell (by simp [go_sem]) (by simp [Value.ownBlock])
        have fz8 : ∀ j, w8.frozen? ⟨w6.heap.size, j, none⟩ = false := fun j => by
          rw [World.frozen?_of_block (hg8.block w6.heap.size (by simp; omega) (by simp [Value.ownBlock]))]
          simp [go_sem]
        have f81 := fz8 1
        have hX8 : Below w6.heap.size w6 w8 := (al6 _ _).grown hg8 (by simp; omega) (by intro k hk; simp [Value.ownBlock] at hk; omega)
        have z8 : w6.heap.size + 1 < w8.heap.size := by have := hg8.size; simp at this; omega
        obtain ⟨a8, c8, rfl⟩ := owns_shape ho8
        clear hg8 p0 p1 p2 p3 p4 p5
        go_wp2_with (at_builtin; go_loud (refine wpList_append_seg rfl (.tmp 73) (.tmp 74) 52 rfl (w6.heap.size + 1) 3 i0 (.int .i64 0) 8 Try.underlying52 hi hz0 hz1 hz2 rfl (.slice (some ⟨w8.heap.size, 0, none⟩) 0 0) 0 [] rfl (HE.out _ _ _ _ (by simp) (by omega)) .i64 (some ⟨g2, 0, none⟩) fw fw xw rfl nw.out (sw6.old ((hX8.setCell (Nat.le_refl _) _).alloc (by simp; omega) _)) (by unfold maxLen; omega) (by omega) (by simp; omega) ?_))
        intro v9 w9 ho9 hg9
        have n8 : w6.heap.size ≠ w8.heap.size := by omega
        have n8' : w6.heap.size < w8.heap.size := by omega
        have hg9' : ((w8.setCell ⟨w6.heap.size, 1, none⟩ (.slice a8 sz c8)).alloc (.cells #[] 3)).grownBy w9 (some w8.heap.size) := hg9
        have b90 := set_alloc_cell hg9' n8 n8' (by decide) b80
        have b91 := set_alloc_same hg9' n8 n8' b81
        have b92 := set_alloc_cell hg9' n8 n8' (by decide) b82
        have b93 := set_alloc_cell hg9' n8 n8' (by decide) b83
        have b94 := set_alloc_cell hg9' n8 n8' (by decide) b84
        have b95 := set_alloc_cell hg9' n8 n8' (by decide) b85
        have fz9 := set_alloc_frozen hg9' n8 n8' fz8
        have f94 := fz9 4
        have ho8' := keep_set ho8 (Nat.lt_succ_self _) rfl hg9'
        have hX9 : Below w6.heap.size w6 w9 := ((hX8.setCell (Nat.le_refl _) _).alloc (by simp; omega) _).grown hg9' (by simp; omega) (by intro k hk; cases hk; omega)
        have z9 : w8.heap.size < w9.heap.size := by have := hg9'.size; simp at this; omega
        obtain ⟨a9, c9, rfl⟩ := owns_shape ho9
        clear hg9 hg9' b80 b81 b82 b83 b84 b85 f81 fz8 ho8
        go_wp2_with (at_builtin; refine wpList_append_seg rfl (.tmp 77) (.tmp 78) 52 rfl (w6.heap.size + 1) 3 i0 (.int .i64 0) 8 Try.underlying52 hi hz0 hz1 hz2 rfl (.slice (some ⟨w9.heap.size, 0, none⟩) 0 0) 0 [] rfl (HE.out _ _ _ _ (by simp) (by omega)) .i64 (some ⟨g3, 0, none⟩) fw fw xv rfl nv.out (sv6.old ((hX9.setCell (Nat.le_refl _) _).alloc (by simp; omega) _)) (by unfold maxLen; omega) (by omega) (by simp; omega) ?_)
        intro v10 w10 ho10 hg10
        have n9 : w6.heap.size ≠ w9.heap.size := by omega
        have n9' : w6.heap.size < w9.heap.size := by omega
        have hg10' : ((w9.setCell ⟨w6.heap.size, 4, none⟩ (.slice a9 fw c9)).alloc (.cells #[] 3)).grownBy w10 (some w9.heap.size) := hg10
        have d0 := set_alloc_cell hg10' n9 n9' (by decide) b90
        have d1 := set_alloc_cell hg10' n9 n9' (by decide) b91
        have d2 := set_alloc_cell hg10' n9 n9' (by decide) b92
        have d3 := set_alloc_cell hg10' n9 n9' (by decide) b93
        have d4 := set_alloc_same hg10' n9 n9' b94
        have d5 := set_alloc_cell hg10' n9 n9' (by decide) b95
        have f105 := set_alloc_frozen hg10' n9 n9' fz9 5
        have ho8'' := keep_set ho8' (Nat.lt_succ_self _) rfl hg10'
        have ho9' := keep_set ho9 (Nat.lt_succ_self _) rfl hg10'
        have hX10 : Below w6.heap.size w6 w10 := ((hX9.setCell (Nat.le_refl _) _).alloc (by simp; omega) _).grown hg10' (by simp; omega) (by intro k hk; cases hk; omega)
        have z10 : w9.heap.size < w10.heap.size := by have := hg10'.size; simp at this; omega
        obtain ⟨a10, c10, rfl⟩ := owns_shape ho10
        have n10 : w6.heap.size < w10.heap.size := by omega
        clear hg10 hg10' b90 b91 b92 b93 b94 b95 f94 fz9 ho8' ho9
        have hX11 : ∀ v X, Below w6.heap.size w6 ((w10.setCell ⟨w6.heap.size, 5, none⟩ v).alloc X) := fun v X => (hX10.setCell (Nat.le_refl _) v).alloc (by simp; omega) X
        have ha' := oko.ha
        have hn' := oko.hn
        go_wp2_with fail
        refine (answered_all o.kd o.at' o.n _ _ _ _ _ _ _ _ _ cb xw xv _ HCL.out (sb6.old (hX11 _ _)) hc256 (Nat.le_refl _) (by omega) (by omega) ha' hn' nw.out (sw6.old (hX11 _ _)) (by omega) nv.out (sv6.old (hX11 _ _)) (by omega)).mono ?_
        rintro e w11 ⟨rfl, hb11⟩
        have hg11 := below_grown hb11 (some w10.heap.size)
        have e1 := set_alloc_cell hg11 (Nat.ne_of_lt n10) n10 (by decide) d1
        have e4 := set_alloc_cell hg11 (Nat.ne_of_lt n10) n10 (by decide) d4
        have e5 := set_alloc_same hg11 (Nat.ne_of_lt n10) n10 d5
        have s8 : Seg .u8 w11 a8 (toI cb) := owns_seg_at (keep_set ho8'' (Nat.lt_succ_self _) rfl hg11)
        have s9 : Seg .i64 w11 a9 xw := owns_seg_at (keep_set ho9' (Nat.lt_succ_self _) rfl hg11)
        have s10 : Seg .i64 w11 a10 xv := owns_seg_at (keep_set ho10 (Nat.lt_succ_self _) rfl hg11)
        have hY11 : Below w6.heap.size w6 w11 := (hX11 _ _).trans (hb11.mono (by simp; omega))
        have n11 : w6.heap.size < w11.heap.size := by have := hb11.size; simp at this; omega
        clear hg11 hb11 d0 d1 d2 d3 d4 d5 f105 ho8'' ho9' ho10
        go_wp2_with fail
        refine (same_true (some ⟨w.heap.size, 0, none⟩) a8 _ _ sz cb w11 (sb6.old hY11) s8 HCL.out hc256).mono ?_
        rintro e w12 ⟨rfl, rfl⟩
        go_wp2_with fail
        refine (sameInts_true (some ⟨g2, 0, none⟩) a9 _ _ fw xw w11 (sw6.old hY11) s9 nw.out (by omega)).mono ?_
        rintro e w12 ⟨rfl, hb12⟩
        have e5' : w12.cell? ⟨w6.heap.size, 5, none⟩ = _ := (hb12.cell n11).trans e5
        have hY12 : Below w6.heap.size w6 w12 := hY11.trans (hb12.mono (Nat.le_of_lt n11))
        go_wp2_with fail
        refine (sameInts_true (some ⟨g3, 0, none⟩) a10 _ _ fw xv w12 (sv6.old hY12) (s10.old hb12) nv.out (by omega)).mono ?_
        rintro e w13 ⟨rfl, hb13⟩
        have hY13 : Below w6.heap.size w6 w13 := hY12.trans (hb13.mono hY12.size)
        go_wp2_with fail
        go_roundw
        case rel => exact ⟨k + 1, _, _, _, by omega, by go_num, own_below ob6 hY13, own_below ow6 hY13, own_below ov6 hY13, hB6.trans (hY13.mono hB6.size)⟩
        case measure => simp [intOf]; omega
      · obtain rfl : k = 2 * ops.length := by omega
        go_wp2_with fail
        refine (started_any _).mono ?_
        rintro e w4 ⟨rfl, hb4⟩
        go_wp2
        go_ret
        exact ⟨rfl, hbel.trans (hb4.mono hbel.size)⟩
end Go.Proofs.Ytebpaolniemfgab.viewAgain
