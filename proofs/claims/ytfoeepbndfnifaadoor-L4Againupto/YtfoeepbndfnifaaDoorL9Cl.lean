/-
  l4.Clamp.
-/
import Derived.Test.YtfoeepbndfnifaaDoorL9Ms
namespace Go.Proofs.YtfoeepbndfnifaaDoor
open Go.RowKit
open L4 (U9 T9)

theorem Tryd.infoOpt9 : (Tryd.prog.info? 68).map (fun i => (i.zero, i.size, i.bytes)) = some (some (.agg #[.int .i64 0, .slice none 0 0]), 2, 32) := by kernel_rfl
/-- does a segment begin? -/
def synB (fl : Int) : Bool := bits .and .i64 fl 2 != 0
structure ClS (w : World) (os : List OpV) (syn : Bool) (m : Nat) (G : Nat) (k : Nat) (ps : List OpV) (wr : World) : Prop where
  hk : k ≤ os.length
  pl : ps.length = k
  vs : vals ps = ((vals os).take k).map (L4.clO syn m)
  cells : ∀ i p, ps[i]? = some p → OpOk wr p ∧ wr.cell? ⟨G, i * 2, none⟩ = some (.int .i64 p.k) ∧ wr.cell? ⟨G, i * 2 + 1, none⟩ = some (.slice p.a p.d.length p.c)
  rest : ∀ j, j < os.length * 2 → ∃ u, wr.cell? ⟨G, j, none⟩ = some u
  fz : ∀ j, wr.frozen? ⟨G, j, none⟩ = false
  bel : Below w.heap.size w wr
  gw : w.heap.size ≤ G
  gl : G < wr.heap.size
  new : ∀ p ∈ ps, ∀ z, p.a = some z → w.heap.size ≤ z.block ∧ G < z.block
  lt : ∀ p ∈ ps, ∀ z, p.a = some z → z.block < wr.heap.size
  own : ∀ p ∈ ps, wr.ownsRow w.heap.size 5 1 (.slice p.a p.d.length p.c) p.d.length ((toI p.d).map (Value.int .u8))
  dis : ps.Pairwise (fun a b => ∀ z y, a.a = some z → b.a = some y → z.block ≠ y.block)
theorem ClS.opts {w wr : World} {os ps : List OpV} {syn : Bool} {m G k : Nat} (h : ClS w os syn m G k ps wr) : OptsAt wr (some ⟨G, 0, none⟩) ps :=
  .inr ⟨G, 0, rfl, h.gl, fun i o ho => by rw [Nat.zero_add]; exact h.cells i o ho⟩
theorem ClS.start {w W w' : World} {os : List OpV} {syn : Bool} {m n : Nat} {xs : List Value} (hb : Below w.heap.size w W) (ho : w'.ownsRow w.heap.size 68 2 (.slice (some ⟨W.heap.size, 0, none⟩) n n) n xs) (hg : W.grownBy w' none) (hn : os.length = n) : ClS w os syn m W.heap.size 0 [] w' := by
  have hbb : Below W.heap.size W w' := below_of_grown hg rfl
  rcases ho.2 with ⟨e, _⟩ | ⟨g, cap, cur, e, _, hg1, _, _, hs, _⟩
  · cases e
  · simp only [Value.slice.injEq, Option.some.injEq, Addr.mk.injEq, true_and, and_true] at e
    obtain ⟨rfl, rfl⟩ := e
    refine ⟨Nat.zero_le _, rfl, rfl, fun i p hp => by simp at hp, fun j hj => ?_, fun j => by simp [World.frozen?, hg1], bthen hb hbb, hb.size, (Array.getElem?_eq_some_iff.1 hg1).1, (fun p hp => by simp at hp), (fun p hp => by simp at hp), (fun p hp => by simp at hp), List.Pairwise.nil⟩
    have hj2 : j < cur.size := by rw [hs]; omega
    exact ⟨cur[j], by simp [World.cell?, hg1, hj2]⟩
theorem ClS.below {w wr w' : World} {os ps : List OpV} {syn : Bool} {m G k : Nat} (h : ClS w os syn m G k ps wr) (b : Below wr.heap.size wr w') : ClS w os syn m G k ps w' :=
  { h with
    cells := fun i p hp => by
      obtain ⟨h1, h2, h3⟩ := h.cells i p hp
      exact ⟨h1.old b, (b.cell (p := ⟨G, i * 2, none⟩) h.gl).trans h2, (b.cell (p := ⟨G, i * 2 + 1, none⟩) h.gl).trans h3⟩
    rest := fun j hj => by
      obtain ⟨u, hu⟩ := h.rest j hj
      exact ⟨u, (b.cell (p := ⟨G, j, none⟩) h.gl).trans hu⟩
    fz := fun j => by
      have := h.fz j
      unfold World.frozen? at this ⊢
      rw [b.block G h.gl]
      exact this
    bel := bthen h.bel b
    gl := Nat.lt_of_lt_of_le h.gl b.size
    lt := fun q hq z hz => Nat.lt_of_lt_of_le (h.lt q hq z hz) b.size
    own := fun q hq => (Ch.ofBelow (S := fun _ => False) b).owns (h.own q hq) (fun _ _ => id) }
theorem blk_own {a : Option Addr} {n c g : Nat} (h : (Value.slice a n c).ownBlock = some g) : ∃ z, a = some z ∧ z.block = g := by
  cases a with
  | none => simp [Value.ownBlock] at h
  | some z => exact ⟨z, rfl, by simpa [Value.ownBlock] using h⟩
theorem OpOk.ch {S : Nat → Prop} {w w' : World} {o : OpV} (h : OpOk w o) (c : Ch S w w') (hS : ∀ z, o.a = some z → ¬ S z.block) : OpOk w' o :=
  ⟨by
    rcases h.seg with h0 | ⟨b, off, e, hc⟩
    · exact .inl h0
    · exact .inr ⟨b, off, e, fun i hi => c.cell (hc i hi) (hS ⟨b, off, none⟩ e)⟩, h.h256, h.le, h.cap⟩
theorem cl_blk {w wr : World} {os ps : List OpV} {syn : Bool} {m G k : Nat} (h : ClS w os syn m G k ps wr) (q : OpV) (hq : q ∈ ps) (z : Addr) (hz : q.a = some z) : z.block < wr.heap.size := h.lt q hq z hz
theorem ClS.far {S : Nat → Prop} {w wr w' : World} {os ps : List OpV} {syn : Bool} {m G k : Nat} (h : ClS w os syn m G k ps wr) (c : Ch S wr w') (hG : ¬ S G) (hS : ∀ q ∈ ps, ∀ z, q.a = some z → ¬ S z.block) (hW : ∀ x, S x → w.heap.size ≤ x) : ClS w os syn m G k ps w' :=
  { h with
    cells := fun i p hp => by
      obtain ⟨h1, h2, h3⟩ := h.cells i p hp
      exact ⟨h1.ch c (hS p (List.mem_of_getElem? hp)), c.cell h2 hG, c.cell h3 hG⟩
    rest := fun j hj => by
      obtain ⟨u, hu⟩ := h.rest j hj
      exact ⟨u, c.cell hu hG⟩
    fz := fun j => by
      have := h.fz j
      unfold World.frozen? at this ⊢
      rw [c.block G h.gl hG]
      exact this
    bel := h.bel.trans (c.below hW h.bel.size)
    gl := Nat.lt_of_lt_of_le h.gl c.size
    lt := fun q hq z hz => Nat.lt_of_lt_of_le (h.lt q hq z hz) c.size
    own := fun q hq => c.owns (h.own q hq) (fun g hg e => by
      obtain ⟨z, hz, hb⟩ := blk_own hg
      exact hS q hq z hz (by rw [hb]; exact e)) }
theorem ClS.step {w W : World} {os ps : List OpV} {syn : Bool} {m G k : Nat} (h : ClS w os syn m G k ps W) (o p : OpV) (ho : os[k]? = some o) (hp : OpOk W p) (hv : p.val = L4.clO syn m o.val) (hnew : ∀ z, p.a = some z → w.heap.size ≤ z.block ∧ G < z.block) (hlt : ∀ z, p.a = some z → z.block < W.heap.size)
    (how : W.ownsRow w.heap.size 5 1 (.slice p.a p.d.length p.c) p.d.length ((toI p.d).map (Value.int .u8))) (hfr : ∀ q ∈ ps, ∀ z y, q.a = some z → p.a = some y → z.block ≠ y.block) :
    ClS w os syn m G (k + 1) (ps ++ [p]) ((W.setCell ⟨G, k * 2, none⟩ (.int .i64 p.k)).setCell ⟨G, k * 2 + 1, none⟩ (.slice p.a p.d.length p.c)) ∧ Ch (fun q => q = G) W ((W.setCell ⟨G, k * 2, none⟩ (.int .i64 p.k)).setCell ⟨G, k * 2 + 1, none⟩ (.slice p.a p.d.length p.c)) := by
  have hc : Ch (fun q => q = G) W ((W.setCell ⟨G, k * 2, none⟩ (.int .i64 p.k)).setCell ⟨G, k * 2 + 1, none⟩ (.slice p.a p.d.length p.c)) := ((Ch.refl (fun q => q = G) W).set _ _ rfl).set _ _ rfl
  have hk : k < os.length := (List.getElem?_eq_some_iff.1 ho).1
  obtain ⟨u0, hu0⟩ := h.rest (k * 2) (by omega)
  obtain ⟨u1, hu1⟩ := h.rest (k * 2 + 1) (by omega)
  have hget : ∀ j, ((W.setCell ⟨G, k * 2, none⟩ (.int .i64 p.k)).setCell ⟨G, k * 2 + 1, none⟩ (.slice p.a p.d.length p.c)).cell? ⟨G, j, none⟩ = if j = k * 2 + 1 then some (.slice p.a p.d.length p.c) else if j = k * 2 then some (.int .i64 p.k) else W.cell? ⟨G, j, none⟩ := by
    intro j
    have e1 : (W.setCell ⟨G, k * 2, none⟩ (.int .i64 p.k)).cell? ⟨G, k * 2 + 1, none⟩ = some u1 := by rw [World.cell?_setCell_other _ _ _ _ (by simp only [ne_eq, Addr.mk.injEq, true_and, and_true]; omega)]; exact hu1
    by_cases j1 : j = k * 2 + 1
    · subst j1; rw [if_pos rfl]; exact World.cell?_setCell_same _ _ _ e1
    · rw [if_neg j1, World.cell?_setCell_other _ _ _ _ (by simp only [ne_eq, Addr.mk.injEq, true_and, and_true]; omega)]
      by_cases j0 : j = k * 2
      · subst j0; rw [if_pos rfl]; exact World.cell?_setCell_same _ _ _ hu0
      · rw [if_neg j0, World.cell?_setCell_other _ _ _ _ (by simp only [ne_eq, Addr.mk.injEq, true_and, and_true]; omega)]
  refine ⟨{ hk := hk, pl := by simp [h.pl], vs := ?_, cells := ?_, rest := ?_, fz := ?_, bel := h.bel.trans (hc.below (fun q e => by have e' : q = G := e; have := h.gw; omega) h.bel.size), gw := h.gw, gl := Nat.lt_of_lt_of_le h.gl hc.size, new := ?_, lt := ?_, own := ?_, dis := ?_ }, hc⟩
  · have e : (vals os).take (k + 1) = (vals os).take k ++ [o.val] := vals_take os k o ho
    rw [e, List.map_append, ← h.vs]
    unfold vals
    rw [List.map_append]
    simp [hv]
  · intro i q hq
    rcases Nat.lt_or_ge i k with hi | hi
    · rw [List.getElem?_append_left (by rw [h.pl]; exact hi)] at hq
      obtain ⟨h1, h2, h3⟩ := h.cells i q hq
      refine ⟨h1.ch hc (fun z hz e => by have e' : z.block = G := e; have := (h.new q (List.mem_of_getElem? hq) z hz).2; omega), ?_, ?_⟩
      · rw [hget, if_neg (by omega), if_neg (by omega)]; exact h2
      · rw [hget, if_neg (by omega), if_neg (by omega)]; exact h3
    · rw [List.getElem?_append_right (by rw [h.pl]; exact hi), h.pl] at hq
      have hik : i = k := by
        rcases Nat.lt_or_ge (i - k) 1 with q1 | q1
        · omega
        · rw [List.getElem?_eq_none (by simp; exact q1)] at hq; cases hq
      subst hik
      simp at hq
      subst hq
      refine ⟨hp.ch hc (fun z hz e => by have e' : z.block = G := e; have := (hnew z hz).2; omega), ?_, ?_⟩
      · rw [hget, if_neg (by omega), if_pos rfl]
      · rw [hget, if_pos rfl]
  · intro j hj
    rw [hget]
    split
    · exact ⟨_, rfl⟩
    · split
      · exact ⟨_, rfl⟩
      · exact h.rest j hj
  · intro j
    rw [World.frozen?_setCell, World.frozen?_setCell]
    exact h.fz j
  · intro q hq
    rcases List.mem_append.1 hq with e | e
    · exact h.new q e
    · simp at e
      subst e
      exact hnew
  · intro q hq z hz
    rcases List.mem_append.1 hq with e | e
    · exact Nat.lt_of_lt_of_le (h.lt q e z hz) hc.size
    · simp at e
      subst e
      exact Nat.lt_of_lt_of_le (hlt z hz) hc.size
  · intro q hq
    rcases List.mem_append.1 hq with e | e
    · refine hc.owns (h.own q e) (fun g hg e2 => ?_)
      obtain ⟨z, hz, hb⟩ := blk_own hg
      have := (h.new q e z hz).2
      have e3 : g = G := e2
      omega
    · rw [List.mem_singleton.1 e]
      refine hc.owns how (fun g hg e2 => ?_)
      obtain ⟨z, hz, hb⟩ := blk_own hg
      have := (hnew z hz).2
      have e3 : g = G := e2
      omega
  · refine List.pairwise_append.2 ⟨h.dis, List.pairwise_singleton _ _, fun a ha b hb z y hz hy => ?_⟩
    rw [List.mem_singleton.1 hb] at hy
    exact hfr a ha z y hz hy
set_option maxHeartbeats 3200000 in
set_option maxRecDepth 100000 in
theorem clamp_any (t : T9) (la : Option Addr) (ln lc : Nat) (os : List OpV) (da : Option Addr) (n c : Nat) (most : Int) (w : World) (hl : os.length = ln) (ho : OptsAt w la os) (hln : ln ≤ 1048576) (hsm : ∀ o ∈ os, o.d.length ≤ 1048576) :
    Calls Tryd.prog 26 #[.agg (tC t la ln lc da n c), .int .i64 most] w fun e w' => ∃ G ps, e = .returned (.agg (tC t (some ⟨G, 0, none⟩) ln ln da n c)) ∧ ClS w os (synB t.fl) most.toNat G ln ps w' := by
  obtain ⟨i0, hi, hz0, hz1, hz2⟩ := info_parts Tryd.infoOpt9
  have bel : Below w.heap.size w (w.alloc (.cells (tC t la ln lc da n c) 45)) := (Below.refl _ _).alloc (Nat.le_refl _) _
  have hr := tAt_new w t la ln lc da n c
  obtain ⟨M, hM⟩ : ∃ M, M = tC t la ln lc da n c := ⟨_, rfl⟩
  rw [← hM] at bel hr ⊢
  obtain ⟨W, hW⟩ : ∃ W, W = w.alloc (.cells M 45) := ⟨_, rfl⟩
  rw [← hW] at bel hr
  have HW : Hid (w.alloc (.cells M 45) = W) := hW.symm
  obtain ⟨O, hO⟩ : ∃ O, O = w.heap.size := ⟨_, rfl⟩
  rw [← hO] at hr
  have HO : Hid (w.heap.size = O) := hO.symm
  have HR : Hid (TAt W O t la ln lc da n c) := hr
  have hb2 : Below W.heap.size W (W.alloc (.cells (tC t9z none 0 0 none 0 0) 45)) := (Below.refl _ _).alloc (Nat.le_refl _) _
  have hn2 := tAt_new W t9z none 0 0 none 0 0
  have hr2 := hr.below hb2
  have bel2 := bthen bel hb2
  obtain ⟨W2, hW2⟩ : ∃ W2, W2 = W.alloc (.cells (tC t9z none 0 0 none 0 0) 45) := ⟨_, rfl⟩
  obtain ⟨O2, hO2⟩ : ∃ O2, O2 = W.heap.size := ⟨_, rfl⟩
  rw [← hW2] at hn2 hr2 bel2
  rw [← hO2] at hn2
  have HW2 : Hid (W.alloc (.cells #[.int .i64 0, .int .i64 0, .int .i64 0, .int .i64 0, .int .i64 0, .int .i64 0, .int .i64 0, .slice none 0 0, .slice none 0 0] 45) = W2) := hW2.symm
  have HO2 : Hid (O + 1 = O2) := by show _ = _; rw [hO2, ← HW.out, World.size_alloc, HO.out]
  have HR2 : Hid (TAt W2 O t la ln lc da n c) := hr2
  have HZ2 : Hid (TAt W2 O2 t9z none 0 0 none 0 0) := hn2
  have HOO : Hid (O < O2) := by rw [hO2]; exact HR.out.lt
  have HN : Hid (os.length = ln) := hl
  have HOA : Hid (OptsAt w la os) := ho
  have HSM : Hid (∀ o ∈ os, o.d.length ≤ 1048576) := hsm
  have c7 := HR2.out.c7
  obtain ⟨mm, hmm⟩ : ∃ mm, mm = most.toNat := ⟨_, rfl⟩
  have hmx : (if most < 0 then (0 : Int) else most) = (mm : Int) := by split <;> omega
  rw [← hmm]
  clear hmm
  clear hr hM hW hO hl ho hsm hb2 hn2 hr2 hW2 hO2 HR bel
  go_enter Tryd.func26, Tryd.ntmps26
  go_upto_region 2 with fail
  rw [HO.out, HW.out, HO2.out, HW2.out]
  go_wp2_with (first | (refine wpList_make_full _ rfl _ _ 43 rfl w.heap.size 68 i0 _ 2 Tryd.underlying43 hi hz0 hz1 .i64 .i64 _ _ ln rfl rfl rfl rfl (by rw [hz2]; omega) (by unfold maxLen; omega) bel2.size ?_))
  intro w3 ho3 hg3
  have hcl := ClS.start (os := os) (syn := synB t.fl) (m := mm) bel2 ho3 hg3 HN.out
  have hb3 : Below W2.heap.size W2 w3 := below_of_grown hg3 rfl
  obtain ⟨G, hG⟩ : ∃ G, G = W2.heap.size := ⟨_, rfl⟩
  rw [← hG] at hcl ⊢
  have HGO : Hid (O < G ∧ O2 < G) := by
    have h1 := HR2.out.lt
    have h2 := HZ2.out.lt
    exact ⟨by omega, by omega⟩
  have HC0 : Hid (ClS w os (synB t.fl) mm G 0 [] w3) := hcl
  have HR3 : Hid (TAt w3 O t la ln lc da n c) := HR2.out.below hb3
  have HZ3 : Hid (TAt w3 O2 t9z none 0 0 none 0 0) := HZ2.out.below hb3
  have c73 := HR3.out.c7
  clear ho3 hg3 hcl hb3 hG HR2 HZ2 c7 hi hz0 hz1 hz2 HW2
  go_wp2
  clear c73
  go_loopw [19] (fun ix wr => ∃ (k : Nat) (ps : List OpV), ix = .int .i64 k ∧ k ≤ ln ∧ Hid (ClS w os (synB t.fl) mm G k ps wr) ∧ Hid (TAt wr O t la ln lc da n c) ∧ Hid (TAt wr O2 t9z none 0 0 none 0 0)) (fun ix _ => ln - (intOf ix).toNat)
  case atStart => exact ⟨0, [], rfl, Nat.zero_le _, HC0, HR3, HZ3⟩
  case round =>
    obtain ⟨k, ps, rfl, hk, HC, HRr, HZr⟩ := hrel
    by_cases hlt : k < ln
    · obtain ⟨o, hok⟩ : ∃ o, os[k]? = some o := ⟨_, List.getElem?_eq_getElem (by rw [HN.out]; exact hlt)⟩
      have hbel := HC.out.bel
      obtain ⟨b, off, hla, hblt, hoo, d0, d1⟩ := (HOA.out.old hbel).at k o hok
      have hsmo := HSM.out o (List.mem_of_getElem? hok)
      subst hla
      have k0 : (0 : Int) ≤ (k : Int) := by omega
      have k1 : (k : Int) < (ln : Int) := by omega
      have k2 : ((k : Int)).toNat = k := by omega
      have wk : IntKind.i64.wrap ((k : Int) + 1) = (k : Int) + 1 := by rw [IntKind.wrap_i64]; omega
      have HOK : Hid (os[k]? = some o) := hok
      obtain ⟨K, hK⟩ : ∃ K, K = o.k := ⟨_, rfl⟩
      obtain ⟨L, hL⟩ : ∃ L, L = o.d.length := ⟨_, rfl⟩
      rw [← hK] at d0
      rw [← hL] at d1 hsmo
      have HK : Hid (K = o.k) := hK
      have HL : Hid (o.d.length = L) := hL.symm
      have hbA : Below wr.heap.size wr (wr.alloc (.cells #[.int .i64 K, .slice o.a L o.c] 68)) := (Below.refl _ _).alloc (Nat.le_refl _) _
      have QC : Hid _ := bclone_any o.a L o.c o.d (wr.alloc (.cells #[.int .i64 K, .slice o.a L o.c] 68)) hL.symm (hoo.seg.old hbA) hsmo
      have HD256 : Hid (∀ x ∈ o.d, x < 256) := hoo.h256
      have p0 : (wr.alloc (.cells #[.int .i64 K, .slice o.a L o.c] 68)).cell? ⟨wr.heap.size, 0, none⟩ = some (.int .i64 K) := by simp [go_sem]
      have p1 : (wr.alloc (.cells #[.int .i64 K, .slice o.a L o.c] 68)).cell? ⟨wr.heap.size, 1, none⟩ = some (.slice o.a L o.c) := by simp [go_sem]
      have pf : ∀ j, (wr.alloc (.cells #[.int .i64 K, .slice o.a L o.c] 68)).frozen? ⟨wr.heap.size, j, none⟩ = false := by intro j; unfold World.frozen?; rw [heap_alloc_new]; simp
      obtain ⟨wA, hwA⟩ : ∃ wA, wA = wr.alloc (.cells #[.int .i64 K, .slice o.a L o.c] 68) := ⟨_, rfl⟩
      rw [← hwA] at QC p0 p1 pf hbA
      have HWA : Hid (wr.alloc (.cells #[.int .i64 K, .slice o.a L o.c] 68) = wA) := hwA.symm
      obtain ⟨P, hP⟩ : ∃ P, P = wr.heap.size := ⟨_, rfl⟩
      rw [← hP] at p0 p1 pf
      have HP : Hid (wr.heap.size = P) := hP.symm
      have HCA : Hid _ := HC.out.below hbA
      have HRA : Hid _ := HRr.out.below hbA
      have HZA : Hid _ := HZr.out.below hbA
      have HPL : Hid (P < wA.heap.size) := World.block_lt_of_cell? wA _ p0
      have HGP : Hid (G < P ∧ w.heap.size ≤ P) := by rw [hP]; exact ⟨HC.out.gl, hbel.size⟩
      have HPN : Hid (∀ q ∈ ps, ∀ z, q.a = some z → z.block < P) := by
        intro q hq z hz
        rw [hP]
        exact cl_blk HC.out q hq z hz
      have HP0 : Hid _ := p0
      have HP1 : Hid _ := p1
      have HPF : Hid _ := pf
      clear hK hL hok hoo hblt hwA hbel hP HC HRr HZr p0 p1 pf hbA
      go_upto_region 6 with fail
      rw [HP.out, HWA.out]
      clear d0 d1 HWA HP
      have p1 := HP1.out
      go_wp2_with fail
      refine Calls.mono QC.out ?_
      rintro e w4 ⟨v, rfl, ho4, hb4⟩
      obtain ⟨va, vc, hv⟩ := owns_shape ho4
      subst hv
      have P0 : w4.cell? ⟨P, 0, none⟩ = some (.int .i64 K) := (hb4.cell (p := ⟨P, 0, none⟩) HPL.out).trans HP0.out
      have P1 : w4.cell? ⟨P, 1, none⟩ = some (.slice o.a L o.c) := (hb4.cell (p := ⟨P, 1, none⟩) HPL.out).trans HP1.out
      have PF : ∀ j, w4.frozen? ⟨P, j, none⟩ = false := by
        intro j
        have := HPF.out j
        unfold World.frozen? at this ⊢
        rw [hb4.block P HPL.out]
        exact this
      have HVA : Hid (∀ z, va = some z → wA.heap.size ≤ z.block) := fun z hz => (ho4.lt z.block (by rw [hz]; rfl)).1
      have HVL : Hid (∀ z, va = some z → z.block < w4.heap.size) := fun z hz => (ho4.lt z.block (by rw [hz]; rfl)).2
      have hok4 : OpOk w4 ⟨K, va, vc, o.d⟩ := by
        have h := OwnB.part ho4 HD256.out
        exact ⟨h.1, h.2.1, h.2.2.1, h.2.2.2⟩
      have hcs : Ch (fun q => q = P) w4 (w4.setCell ⟨P, 1, none⟩ (.slice va L vc)) := (Ch.refl (fun q => q = P) w4).set _ _ rfl
      have HSZ : Hid (w4.heap.size ≤ (w4.setCell ⟨P, 1, none⟩ (.slice va L vc)).heap.size) := hcs.size
      have hok5 : OpOk (w4.setCell ⟨P, 1, none⟩ (.slice va L vc)) ⟨K, va, vc, o.d⟩ := hok4.ch hcs (fun z hz e => by have e' : z.block = P := e; have := HVA.out z hz; have := HPL.out; omega)
      have HCB : Hid (ClS w os (synB t.fl) mm G k ps (w4.setCell ⟨P, 1, none⟩ (.slice va L vc))) := (HCA.out.below hb4).far hcs (by have := HGP.out; omega) (fun q hq z hz e => by have e' : z.block = P := e; have := HPN.out q hq z hz; omega) (fun x hx => by have e' : x = P := hx; have := HGP.out; omega)
      have HRB : Hid (TAt (w4.setCell ⟨P, 1, none⟩ (.slice va L vc)) O t (some ⟨b, off, none⟩) ln lc da n c) := TAt.ch (TAt.below HRA.out hb4) hcs (fun e => by have e' : O = P := e; have := HGP.out; have := HGO.out; omega)
      have HZB : Hid (TAt (w4.setCell ⟨P, 1, none⟩ (.slice va L vc)) O2 t9z none 0 0 none 0 0) := TAt.ch (TAt.below HZA.out hb4) hcs (fun e => by have e' : O2 = P := e; have := HGP.out; have := HGO.out; omega)
      have S0 : (w4.setCell ⟨P, 1, none⟩ (.slice va L vc)).cell? ⟨P, 0, none⟩ = some (.int .i64 K) := by rw [World.cell?_setCell_other _ _ _ _ (by simp)]; exact P0
      have S1 : (w4.setCell ⟨P, 1, none⟩ (.slice va L vc)).cell? ⟨P, 1, none⟩ = some (.slice va L vc) := World.cell?_setCell_same _ _ _ P1
      have SF : ∀ j, (w4.setCell ⟨P, 1, none⟩ (.slice va L vc)).frozen? ⟨P, j, none⟩ = false := by intro j; rw [World.frozen?_setCell]; exact PF j
      have HOW5 : Hid ((w4.setCell ⟨P, 1, none⟩ (.slice va L vc)).ownsRow w.heap.size 5 1 (.slice va L vc) L ((toI o.d).map (Value.int .u8))) := hcs.owns (owns_le ho4 (by have := HGP.out; have := HPL.out; omega)) (fun g hg e => by
        obtain ⟨z, hz, hb⟩ := blk_own hg
        have h1 := HVA.out z hz
        have h2 := HPL.out
        have e3 : g = P := e
        omega)
      obtain ⟨w5, hw5⟩ : ∃ w5, w5 = w4.setCell ⟨P, 1, none⟩ (.slice va L vc) := ⟨_, rfl⟩
      rw [← hw5] at HOW5 hok5 HSZ HCB HRB HZB S0 S1 SF
      have HW5 : Hid (w4.setCell ⟨P, 1, none⟩ (.slice va L vc) = w5) := hw5.symm
      have QT : Hid _ := told_any ⟨K, va, vc, o.d⟩ w5 hok5
      have HTV : Hid ((⟨K, va, vc, o.d⟩ : OpV).val = o.val) := by show (K, o.d) = (o.k, o.d); rw [HK.out]
      rw [HTV.out] at QT
      rw [show (⟨K, va, vc, o.d⟩ : OpV).d.length = L from HL.out] at QT
      obtain ⟨z, hz⟩ : ∃ z, z = L4.tells o.val := ⟨_, rfl⟩
      obtain ⟨q, hq⟩ : ∃ q, q = L4.toldV o.val := ⟨_, rfl⟩
      rw [← hz, ← hq] at QT
      have HZ : Hid (z = L4.tells o.val) := hz
      have HQ : Hid (q = L4.toldV o.val) := hq
      have HOK5 : Hid _ := hok5
      have HS0 : Hid _ := S0
      have HS1 : Hid _ := S1
      have HSF : Hid _ := SF
      have HPL5 : Hid (P < w5.heap.size) := World.block_lt_of_cell? w5 _ S0
      have PF1 := PF 1
      clear QC ho4 hb4 hok4 hcs hok5 hw5 hz hq HCA HRA HZA P0 PF S0 SF p1
      go_upto_region 7 with fail
      rw [HW5.out]
      clear P1 PF1 HW5
      have S0 := HS0.out
      go_wp2_with fail
      refine Calls.mono QT.out ?_
      rintro e w6 ⟨rfl, hb6⟩
      have HC6 : Hid (ClS w os (synB t.fl) mm G k ps w6) := HCB.out.below hb6
      have HR6 : Hid (TAt w6 O t (some ⟨b, off, none⟩) ln lc da n c) := HRB.out.below hb6
      have HZ6 : Hid (TAt w6 O2 t9z none 0 0 none 0 0) := HZB.out.below hb6
      have HOK6 : Hid (OpOk w6 ⟨K, va, vc, o.d⟩) := OpOk.old HOK5.out hb6
      have HOW6 : Hid (w6.ownsRow w.heap.size 5 1 (.slice va L vc) L ((toI o.d).map (Value.int .u8))) := (Ch.ofBelow (S := fun _ => False) hb6).owns HOW5.out (fun _ _ => id)
      have T0 : w6.cell? ⟨P, 0, none⟩ = some (.int .i64 K) := (hb6.cell (p := ⟨P, 0, none⟩) HPL5.out).trans S0
      have T1 : w6.cell? ⟨P, 1, none⟩ = some (.slice va L vc) := (hb6.cell (p := ⟨P, 1, none⟩) HPL5.out).trans S1
      have HVL6 : Hid (∀ z, va = some z → z.block < w6.heap.size) := fun z hz => by have := HVL.out z hz; have := HSZ.out; have := hb6.size; omega
      have HTF : Hid (∀ j, w6.frozen? ⟨P, j, none⟩ = false) := by
        intro j
        have := HSF.out j
        unfold World.frozen? at this ⊢
        rw [hb6.block P HPL5.out]
        exact this
      clear QT hb6 S0 S1 HCB HRB HZB HOK5 HS0 HS1 HSF
      have c4 := HR6.out.c4
      obtain ⟨rg0, hg0⟩ := HC6.out.rest (k * 2) (by rw [HN.out]; omega)
      obtain ⟨rg1, hg1⟩ := HC6.out.rest (k * 2 + 1) (by rw [HN.out]; omega)
      have gf0 := HC6.out.fz (k * 2)
      have gf1 := HC6.out.fz (k * 2 + 1)
      obtain ⟨sy, hsy⟩ : ∃ sy, sy = synB t.fl := ⟨_, rfl⟩
      obtain ⟨ff, hff⟩ : ∃ ff, ff = bits .and .i64 t.fl 2 := ⟨_, rfl⟩
      have hff2 : bits .and .i64 t.fl 2 = ff := hff.symm
      have hsy2 : (ff != 0) = sy := by rw [hff]; exact hsy.symm
      clear hff
      by_cases hall : z = true ∧ mm < q ∧ sy = true
      case neg =>
        have HPV : Hid ((⟨K, va, vc, o.d⟩ : OpV).val = L4.clO (synB t.fl) mm o.val) := by
          show _ = _
          rw [HTV.out]
          unfold L4.clO
          rw [if_neg]
          rw [← HZ.out, ← HQ.out, ← hsy]
          intro h
          simp only [Bool.and_eq_true, decide_eq_true_eq] at h
          exact hall ⟨h.1.1, h.1.2, h.2⟩
        obtain ⟨hst, hch⟩ := HC6.out.step o ⟨K, va, vc, o.d⟩ HOK.out HOK6.out HPV.out (fun z hz => by have := HVA.out z hz; have := HPL.out; have := HGP.out; exact ⟨by omega, by omega⟩) HVL6.out (by
          show w6.ownsRow _ _ 1 (.slice va o.d.length vc) o.d.length _
          rw [HL.out]
          exact HOW6.out) (fun q hq z y hz hy e => by
          have h1 := HPN.out q hq z hz
          have h2 := HVA.out y hy
          have h3 := HPL.out
          omega)
        have HRs : Hid _ := TAt.ch HR6.out hch (fun e => by have e' : O = G := e; have := HGO.out; omega)
        have HZs : Hid _ := TAt.ch HZ6.out hch (fun e => by have e' : O2 = G := e; have := HGO.out; omega)
        have HST : Hid _ := hst
        rw [show (⟨K, va, vc, o.d⟩ : OpV).d.length = L from HL.out] at HST HRs HZs
        clear hst hch HC6 HR6 HZ6
        cases z with
        | false =>
          clear hall
          go_wp2
          go_roundw
          case rel => exact ⟨k + 1, ps ++ [⟨K, va, vc, o.d⟩], by go_num, by omega, HST, HRs, HZs⟩
          case measure => simp [intOf]; omega
        | true =>
          by_cases hlt2 : mm < q
          · have b2 : ((mm : Int) < (q : Int)) := by omega
            have hs0 : sy = false := by
              cases sy with
              | false => rfl
              | true => exact absurd ⟨rfl, hlt2, rfl⟩ hall
            subst hs0
            have hf0 : ff = 0 := by simpa using hsy2
            subst hf0
            clear hall hlt2 hsy hsy2
            go_wp2
            go_roundw
            case rel => exact ⟨k + 1, ps ++ [⟨K, va, vc, o.d⟩], by go_num, by omega, HST, HRs, HZs⟩
            case measure => simp [intOf]; omega
          · have b2 : ¬ ((mm : Int) < (q : Int)) := by omega
            clear hall hlt2
            go_wp2
            go_roundw
            case rel => exact ⟨k + 1, ps ++ [⟨K, va, vc, o.d⟩], by go_num, by omega, HST, HRs, HZs⟩
            case measure => simp [intOf]; omega
      obtain ⟨hz1, hmq, hs1⟩ := hall
      subst hz1 hs1
      have HSY : Hid (true = synB t.fl) := hsy
      clear hsy
      have b2 : ((mm : Int) < (q : Int)) := by omega
      have hq65 : q ≤ 65535 := by
        rw [HQ.out]
        unfold L4.toldV
        have g := fun i => I4.getD_lt o.d HD256.out i
        have h0 := g 0
        have h1 := g 1
        split
        · show o.d.getD 0 0 * 256 + o.d.getD 1 0 ≤ _
          omega
        · omega
      obtain ⟨x1, hx1⟩ : ∃ x1, x1 = mm / 256 := ⟨_, rfl⟩
      obtain ⟨x2, hx2⟩ : ∃ x2, x2 = mm % 256 := ⟨_, rfl⟩
      have e1 : (mm : Int) / 256 % 256 = (x1 : Int) := by omega
      have e2 : (mm : Int) % 256 = (x2 : Int) := by omega
      have tf1 := HTF.out 1
      have HPV : Hid ((K, [x1, x2]) = L4.clO (synB t.fl) mm o.val) := by
        show _ = _
        unfold L4.clO
        rw [if_pos]
        · rw [hx1, hx2, HK.out]; rfl
        · rw [← HZ.out, ← HQ.out, ← HSY.out, decide_eq_true hmq]; rfl
      have hbq : Below w6.heap.size w6 (w6.alloc (.cells #[.int .u8 x1, .int .u8 x2] 5)) := (Below.refl _ _).alloc (Nat.le_refl _) _
      have hPq : P < w6.heap.size := World.block_lt_of_cell? w6 _ T0
      have U1 : (w6.alloc (.cells #[.int .u8 x1, .int .u8 x2] 5)).cell? ⟨P, 1, none⟩ = some (.slice va L vc) := (hbq.cell (p := ⟨P, 1, none⟩) hPq).trans T1
      have U0 : (w6.alloc (.cells #[.int .u8 x1, .int .u8 x2] 5)).cell? ⟨P, 0, none⟩ = some (.int .i64 K) := (hbq.cell (p := ⟨P, 0, none⟩) hPq).trans T0
      have UF : (w6.alloc (.cells #[.int .u8 x1, .int .u8 x2] 5)).frozen? ⟨P, 1, none⟩ = false := by
        have := tf1
        unfold World.frozen? at this ⊢
        rw [hbq.block P hPq]
        exact this
      have hsegq : Seg .u8 (w6.alloc (.cells #[.int .u8 x1, .int .u8 x2] 5)) (some ⟨w6.heap.size, 0, none⟩) (toI [x1, x2]) := by
        refine .inr ⟨_, _, rfl, fun i hi => ?_⟩
        have hi2 : i = 0 ∨ i = 1 := by simp [toI] at hi; omega
        rcases hi2 with rfl | rfl <;> simp [go_sem, toI]
      have hokq : OpOk (w6.alloc (.cells #[.int .u8 x1, .int .u8 x2] 5)) ⟨K, some ⟨w6.heap.size, 0, none⟩, 2, [x1, x2]⟩ := ⟨hsegq, by intro x hx; simp at hx; omega, by simp, by simp⟩
      have hcq : Ch (fun q => q = P) (w6.alloc (.cells #[.int .u8 x1, .int .u8 x2] 5)) ((w6.alloc (.cells #[.int .u8 x1, .int .u8 x2] 5)).setCell ⟨P, 1, none⟩ (.slice (some ⟨w6.heap.size, 0, none⟩) 2 2)) := (Ch.refl (fun q => q = P) _).set _ _ rfl
      have HOK7 : Hid (OpOk ((w6.alloc (.cells #[.int .u8 x1, .int .u8 x2] 5)).setCell ⟨P, 1, none⟩ (.slice (some ⟨w6.heap.size, 0, none⟩) 2 2)) ⟨K, some ⟨w6.heap.size, 0, none⟩, 2, [x1, x2]⟩) := hokq.ch hcq (fun z hz e => by have e' : z.block = P := e; have hz2 := Option.some.inj hz; rw [← hz2] at e'; simp at e'; omega)
      have HC7 : Hid (ClS w os (synB t.fl) mm G k ps ((w6.alloc (.cells #[.int .u8 x1, .int .u8 x2] 5)).setCell ⟨P, 1, none⟩ (.slice (some ⟨w6.heap.size, 0, none⟩) 2 2))) := (HC6.out.below hbq).far hcq (by have := HGP.out; omega) (fun q hq z hz e => by have e' : z.block = P := e; have := HPN.out q hq z hz; omega) (fun x hx => by have e' : x = P := hx; have := HGP.out; omega)
      have HR7 : Hid (TAt ((w6.alloc (.cells #[.int .u8 x1, .int .u8 x2] 5)).setCell ⟨P, 1, none⟩ (.slice (some ⟨w6.heap.size, 0, none⟩) 2 2)) O t (some ⟨b, off, none⟩) ln lc da n c) := TAt.ch (TAt.below HR6.out hbq) hcq (fun e => by have e' : O = P := e; have := HGP.out; have := HGO.out; omega)
      have HZ7 : Hid (TAt ((w6.alloc (.cells #[.int .u8 x1, .int .u8 x2] 5)).setCell ⟨P, 1, none⟩ (.slice (some ⟨w6.heap.size, 0, none⟩) 2 2)) O2 t9z none 0 0 none 0 0) := TAt.ch (TAt.below HZ6.out hbq) hcq (fun e => by have e' : O2 = P := e; have := HGP.out; have := HGO.out; omega)
      have HV0 : Hid (((w6.alloc (.cells #[.int .u8 x1, .int .u8 x2] 5)).setCell ⟨P, 1, none⟩ (.slice (some ⟨w6.heap.size, 0, none⟩) 2 2)).cell? ⟨P, 0, none⟩ = some (.int .i64 K)) := by show _ = _; rw [World.cell?_setCell_other _ _ _ _ (by simp)]; exact U0
      have HV1 : Hid (((w6.alloc (.cells #[.int .u8 x1, .int .u8 x2] 5)).setCell ⟨P, 1, none⟩ (.slice (some ⟨w6.heap.size, 0, none⟩) 2 2)).cell? ⟨P, 1, none⟩ = some (.slice (some ⟨w6.heap.size, 0, none⟩) 2 2)) := World.cell?_setCell_same _ _ _ U1
      have HOW7 : Hid (((w6.alloc (.cells #[.int .u8 x1, .int .u8 x2] 5)).setCell ⟨P, 1, none⟩ (.slice (some ⟨w6.heap.size, 0, none⟩) 2 2)).ownsRow w.heap.size 5 1 (.slice (some ⟨w6.heap.size, 0, none⟩) 2 2) 2 ((toI [x1, x2]).map (Value.int .u8))) := hcq.owns (to_own (heap_alloc_new _ _) HC6.out.bel.size rfl (by decide)) (fun g hg e => by
        obtain ⟨z, hz, hb⟩ := blk_own hg
        have hz2 := Option.some.inj hz
        rw [← hz2] at hb
        have e3 : g = P := e
        simp only at hb
        omega)
      obtain ⟨w7, hw7⟩ : ∃ w7, w7 = (w6.alloc (.cells #[.int .u8 x1, .int .u8 x2] 5)).setCell ⟨P, 1, none⟩ (.slice (some ⟨w6.heap.size, 0, none⟩) 2 2) := ⟨_, rfl⟩
      have HLT7 : Hid (w6.heap.size < w7.heap.size) := by show _ < _; rw [hw7]; have := hcq.size; simp at this ⊢
      rw [← hw7] at HOW7 HOK7 HC7 HR7 HZ7 HV0 HV1
      have HW7 : Hid ((w6.alloc (.cells #[.int .u8 x1, .int .u8 x2] 5)).setCell ⟨P, 1, none⟩ (.slice (some ⟨w6.heap.size, 0, none⟩) 2 2) = w7) := hw7.symm
      obtain ⟨D, hD⟩ : ∃ D, D = w6.heap.size := ⟨_, rfl⟩
      have HD : Hid (w6.heap.size = D) := hD.symm
      rw [← hD] at HOW7 HOK7 HV1 HLT7
      have HPD : Hid (P < D) := by rw [hD]; exact hPq
      have HDP : Hid (G < D ∧ w.heap.size ≤ D) := by rw [hD]; exact ⟨HC6.out.gl, HC6.out.bel.size⟩
      clear hx1 hx2 hbq hPq U0 hsegq hokq hcq hw7 hD HC6 HR6 HZ6 HOK6 hq65 hg0 hg1 gf0 gf1
      go_upto_region 10 with fail
      rw [HW7.out, HD.out]
      clear HW7 T0 T1 U1 UF tf1 c4 e1 e2 b2
      obtain ⟨rg0, hg0⟩ := HC7.out.rest (k * 2) (by rw [HN.out]; omega)
      obtain ⟨rg1, hg1⟩ := HC7.out.rest (k * 2 + 1) (by rw [HN.out]; omega)
      have gf0 := HC7.out.fz (k * 2)
      have gf1 := HC7.out.fz (k * 2 + 1)
      have V0 := HV0.out
      have V1 := HV1.out
      obtain ⟨hst, hch⟩ := HC7.out.step o ⟨K, some ⟨D, 0, none⟩, 2, [x1, x2]⟩ HOK.out HOK7.out HPV.out (fun z hz => by have hz2 := Option.some.inj hz; rw [← hz2]; have := HDP.out; exact ⟨this.2, this.1⟩) (fun z hz => by have hz2 := Option.some.inj hz; rw [← hz2]; exact HLT7.out) HOW7.out (fun q hq z y hz hy e => by
        have hy2 := Option.some.inj hy
        rw [← hy2] at e
        have h1 := HPN.out q hq z hz
        have h2 := HPD.out
        simp only at e
        omega)
      have HRs : Hid _ := TAt.ch HR7.out hch (fun e => by have e' : O = G := e; have := HGO.out; omega)
      have HZs : Hid _ := TAt.ch HZ7.out hch (fun e => by have e' : O2 = G := e; have := HGO.out; omega)
      have HST : Hid _ := hst
      clear hst hch HC7 HR7 HZ7
      go_wp2
      go_roundw
      case rel => exact ⟨k + 1, ps ++ [⟨K, some ⟨D, 0, none⟩, 2, [x1, x2]⟩], by go_num, by omega, HST, HRs, HZs⟩
      case measure => simp [intOf]; omega
    · have hkn : k = ln := by omega
      subst hkn
      clear hlt hk
      obtain ⟨hT7, hc7⟩ := HRr.out.set7 (some ⟨G, 0, none⟩) k k
      have f7 := HRr.out.c7
      have z7 := HRr.out.fz 7
      have HC7 : Hid (ClS w os (synB t.fl) mm G k ps (wr.setCell ⟨O, 7, none⟩ (.slice (some ⟨G, 0, none⟩) k k))) := HC.out.far hc7 (fun e => by have e' : G = O := e; have := HGO.out; omega) (fun q hq z hz e => by have e' : z.block = O := e; have := (HC.out.new q hq z hz).2; have := HGO.out; omega) (fun x hx => by have e' : x = O := hx; have := HO.out; omega)
      have HT7 : Hid _ := hT7
      have HZ7 : Hid (TAt (wr.setCell ⟨O, 7, none⟩ (.slice (some ⟨G, 0, none⟩) k k)) O2 t9z none 0 0 none 0 0) := TAt.ch HZr.out hc7 (fun e => by have e' : O2 = O := e; have := HOO.out; omega)
      obtain ⟨w7, hw7⟩ : ∃ w7, w7 = wr.setCell ⟨O, 7, none⟩ (.slice (some ⟨G, 0, none⟩) k k) := ⟨_, rfl⟩
      rw [← hw7] at HC7 HT7 HZ7
      have HW7 : Hid (wr.setCell ⟨O, 7, none⟩ (.slice (some ⟨G, 0, none⟩) k k) = w7) := hw7.symm
      clear hT7 hc7 hw7 HC HRr HZr
      go_upto_region 13 with fail
      rw [HW7.out]
      clear HW7 f7 z7
      go_wp2_with (first | (refine wpList_load_t9 (.tmp 2) rfl O t (some ⟨G, 0, none⟩) k k da n c rfl HT7.out rfl ?_) | (refine wpList_store_t9 (.tmp 4) (.tmp 59) rfl rfl O2 t9z none 0 0 none 0 0 t (some ⟨G, 0, none⟩) k k da n c rfl rfl HZ7.out rfl ?_))
      intro wE hRE kE
      have HRE : Hid (TAt wE O2 t (some ⟨G, 0, none⟩) k k da n c) := hRE
      have HCE : Hid (ClS w os (synB t.fl) mm G k ps wE) := HC7.out.far kE (fun e => by have e' : G = O2 := e; have := HGO.out; omega) (fun q hq z hz e => by have e' : z.block = O2 := e; have := (HC7.out.new q hq z hz).2; have := HGO.out; omega) (fun x hx => by have e' : x = O2 := hx; have := HO.out; have := HOO.out; omega)
      clear hRE kE
      go_wp2
      (try simp only [Exit.inBlock, Exit.then])
      refine bodyPost_ret (v := .agg (tC t (some ⟨G, 0, none⟩) k k da n c)) ?_ rfl ?_
      · exact results_cell_row rfl _ _ O2 45 _ _ _ rfl HRE.out Tryd.underlying45 rfl Tryd.sizeT9
      exact ⟨G, ps, rfl, HCE.out⟩
end Go.Proofs.YtfoeepbndfnifaaDoor
