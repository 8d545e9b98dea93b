/-
  R6Laid R6Open R6Same R6Bytes R6Values, one behind the other.
-/
import Derived.Test.YtdinhgfkpjaipaaDoorKRa
import Derived.Test.YtdinhgfkpjaipaaDoorI4Har3
import Derived.Test.YtdinhgfkpjaipaaDoorI4Open
import Derived.Test.YtdinhgfkpjaipaaDoorKRb
import Derived.Test.YtdinhgfkpjaipaaDoorI4Start2
namespace Go.Proofs.YtdinhgfkpjaipaaDoor
open Go.RowKit
open I4 (H4)

theorem Tryd.infoRow : (Tryd.prog.info? 26).map (fun i => (i.zero, i.size, i.bytes)) = some (some (.slice none 0 0), 1, 24) := by kernel_rfl
theorem one_new (w : World) (x : Value) (t : TypeId) : ∀ j u, ([x] : List Value)[j]? = some u → (w.alloc (.cells #[x] t)).cell? ((⟨w.heap.size, 0, none⟩ : Addr).add j) = some u := by
  intro j u hj
  rw [Addr.add_lit, Nat.zero_add, World.cell?_alloc_at _ _ _ _ rfl]
  match j, hj with
  | 0, hj => simpa using hj
  | j + 1, hj => simp at hj
def wCs (ps : List OpV) : List Value := ps.map (fun p => .slice p.a (p.d.length + 3) p.c)
/-- the state of the loop -/
structure LaS (w : World) (os : List OpV) (vm vw : Value) (k : Nat) (ps : List OpV) (wr : World) : Prop where
  own : wr.ownsRow w.heap.size 43 2 vm ps.length (opCs ps)
  ownw : wr.ownsRow w.heap.size 26 1 vw ps.length (wCs ps)
  rows : ∀ p ∈ ps, wr.ownsRow w.heap.size 5 1 (.slice p.a (p.d.length + 3) p.c) (p.d.length + 3) ((toI (p.d ++ [91, 92, 93])).map (Value.int .u8))
  vs : vals ps = (vals os).take k
  bel : Below w.heap.size w wr
theorem LaS.len {w wr : World} {os ps : List OpV} {vm vw : Value} {k : Nat} (h : LaS w os vm vw k ps wr) (hk : k ≤ os.length) : ps.length = k := by
  have := congrArg List.length h.vs
  simp only [vals, List.length_map, List.length_take] at this
  omega
theorem LaS.below {w wr w' : World} {os ps : List OpV} {vm vw : Value} {k : Nat} (h : LaS w os vm vw k ps wr) (b : Below wr.heap.size wr w') : LaS w os vm vw k ps w' :=
  ⟨owns_below h.own b, owns_below h.ownw b, fun p hp => owns_below (h.rows p hp) b, h.vs, h.bel.trans (b.mono h.bel.size)⟩
def op99 : OpV := ⟨99, none, 0, []⟩
/-- options laid so -/
structure LaidAt (w : World) (os : List OpV) (ma wa : Option Addr) (ps : List OpV) : Prop where
  opts : OptsAt w ma (ps ++ [op99])
  vs : vals ps = vals os
  wb : ∀ i p, ps[i]? = some p → ∃ gw g, wa = some ⟨gw, 0, none⟩ ∧ gw < w.heap.size ∧ w.cell? ⟨gw, i, none⟩ = some (.slice (some ⟨g, 0, none⟩) (p.d.length + 3) p.c) ∧ Seg .u8 w (some ⟨g, 0, none⟩) (toI (p.d ++ [91, 92, 93])) ∧ p.d.length + 3 ≤ p.c ∧ p.a = some ⟨g, 0, none⟩
/-- all of it lies from a block on -/
def LaidNew (B : Nat) (ma wa : Option Addr) (ps : List OpV) : Prop := (∀ x, ma = some x → B ≤ x.block) ∧ (∀ x, wa = some x → B ≤ x.block) ∧ ∀ p ∈ ps, ∀ x, p.a = some x → B ≤ x.block
theorem LaidAt.old {w w' : World} {os ps : List OpV} {ma wa : Option Addr} (h : LaidAt w os ma wa ps) (b : Below w.heap.size w w') : LaidAt w' os ma wa ps :=
  ⟨h.opts.old b, h.vs, fun i p hp => by
    obtain ⟨gw, g, h1, h2, h3, h4, h5⟩ := h.wb i p hp
    exact ⟨gw, g, h1, Nat.lt_of_lt_of_le h2 b.size, (b.cell (p := ⟨gw, i, none⟩) h2).trans h3, h4.old b, h5⟩⟩
theorem LaidAt.ch {S : Nat → Prop} {w w' : World} {os ps : List OpV} {ma wa : Option Addr} {B : Nat} (h : LaidAt w os ma wa ps) (b : Ch S w w') (hn : LaidNew B ma wa ps) (hS : ∀ x, B ≤ x → ¬ S x) : LaidAt w' os ma wa ps := by
  refine ⟨h.opts.ch b (fun x hx => hS _ (hn.1 x hx)) (fun o ho x hx => ?_), h.vs, fun i p hp => ?_⟩
  · rcases List.mem_append.1 ho with hm | hm
    · exact hS _ (hn.2.2 o hm x hx)
    · simp at hm
      subst hm
      simp [op99] at hx
  · obtain ⟨gw, g, h1, h2, h3, h4, h5, h6⟩ := h.wb i p hp
    have n1 : ¬ S gw := hS _ (hn.2.1 ⟨gw, 0, none⟩ h1)
    have n2 : ¬ S g := hS _ (hn.2.2 p (List.mem_of_getElem? hp) ⟨g, 0, none⟩ h6)
    exact ⟨gw, g, h1, Nat.lt_of_lt_of_le h2 b.size, b.cell h3 n1, b.seg h4 (fun x _ hx => by have := Option.some.inj hx; rw [← this]; exact n2), h5, h6⟩
theorem OptsAt.front {w : World} {la : Option Addr} {a b : List OpV} (h : OptsAt w la (a ++ b)) : OptsAt w la a := by
  rcases h with h | ⟨g, off, ha, hlt, hc⟩
  · exact .inl (List.append_eq_nil_iff.1 h).1
  · exact .inr ⟨g, off, ha, hlt, fun i o hi => hc i o (by rw [List.getElem?_append_left (List.getElem?_eq_some_iff.1 hi).1]; exact hi)⟩
theorem LaS.laid {w wr : World} {os ps : List OpV} {ma wa : Option Addr} {n mc wc : Nat} (h1 : wr.ownsRow w.heap.size 43 2 (.slice ma (n + 1) mc) (n + 1) (opCs (ps ++ [op99]))) (h2 : wr.ownsRow w.heap.size 26 1 (.slice wa n wc) n (wCs ps)) (h3 : ∀ p ∈ ps, wr.ownsRow w.heap.size 5 1 (.slice p.a (p.d.length + 3) p.c) (p.d.length + 3) ((toI (p.d ++ [91, 92, 93])).map (Value.int .u8))) (hn : ps.length = n) (hv : vals ps = vals os) (ho : ∀ o ∈ vals os, ∀ x ∈ o.2, x < 256) : LaidAt wr os ma wa ps := by
  refine ⟨?_, hv, ?_⟩
  · obtain ⟨g, cap, cur, e, _, hg, _⟩ : ∃ g cap cur, Value.slice ma (n + 1) mc = .slice (some ⟨g, 0, none⟩) (n + 1) cap ∧ w.heap.size ≤ g ∧ wr.heap[g]? = some (.cells cur 43 (0, 0)) ∧ True := by
      rcases h1.2 with ⟨_, h0⟩ | ⟨g, cap, cur, e, hb, hg, _⟩
      · omega
      · exact ⟨g, cap, cur, e, hb, hg, trivial⟩
    simp only [Value.slice.injEq, true_and] at e
    obtain ⟨rfl, rfl⟩ := e
    refine .inr ⟨g, 0, rfl, (Array.getElem?_eq_some_iff.1 hg).1, fun i o hi => ?_⟩
    have hin : i < n + 1 := by have := (List.getElem?_eq_some_iff.1 hi).1; rw [List.length_append, hn] at this; simpa using this
    obtain ⟨c1, c2⟩ := opCs_get (ps ++ [op99]) i o hi
    have d1 := h1.cellAt (i * 2) (by omega)
    have d2 := h1.cellAt (i * 2 + 1) (by omega)
    rw [c1] at d1
    rw [c2] at d2
    refine ⟨?_, by rw [Nat.zero_add]; exact d1, by rw [Nat.zero_add]; exact d2⟩
    rcases List.mem_append.1 (List.mem_of_getElem? hi) with hm | hm
    · obtain ⟨hsg, q1, q2⟩ := owns_at (h3 o hm)
      have hp0 := hsg.part0 o.d.length (by rw [toI_len, List.length_append]; omega)
      rw [toI_take, List.take_append_of_le_length (Nat.le_refl _), List.take_of_length_le (Nat.le_refl _)] at hp0
      have hov : o.val ∈ vals os := by rw [← hv]; exact List.mem_map.2 ⟨o, hm, rfl⟩
      exact ⟨hp0, ho _ hov, by omega, q2⟩
    · simp at hm
      subst hm
      exact ⟨.inl rfl, (by intro x hx; cases hx), Nat.le_refl _, by decide⟩
  · intro i p hp
    have hin : i < n := by have := (List.getElem?_eq_some_iff.1 hp).1; omega
    obtain ⟨gw, cap, cur, e, _, hg, _⟩ : ∃ g cap cur, Value.slice wa n wc = .slice (some ⟨g, 0, none⟩) n cap ∧ w.heap.size ≤ g ∧ wr.heap[g]? = some (.cells cur 26 (0, 0)) ∧ True := by
      rcases h2.2 with ⟨_, h0⟩ | ⟨g, cap, cur, e, hb, hg, _⟩
      · omega
      · exact ⟨g, cap, cur, e, hb, hg, trivial⟩
    simp only [Value.slice.injEq, true_and] at e
    obtain ⟨rfl, rfl⟩ := e
    have d1 := h2.cellAt i (by omega)
    have e1 : (wCs ps)[i]? = some (.slice p.a (p.d.length + 3) p.c) := by unfold wCs; rw [List.getElem?_map, hp]; rfl
    rw [e1] at d1
    have hrow := h3 p (List.mem_of_getElem? hp)
    obtain ⟨hsg, q1, _⟩ := owns_at hrow
    obtain ⟨g, c, e2⟩ := owns_some hrow (by omega)
    simp only [Value.slice.injEq, true_and] at e2
    rw [e2.1] at d1 hsg
    exact ⟨gw, g, rfl, (Array.getElem?_eq_some_iff.1 hg).1, d1, hsg, q1, e2.1⟩
set_option maxHeartbeats 6400000 in
set_option maxRecDepth 100000 in
theorem laid_any (la : Option Addr) (n cap : Nat) (os : List OpV) (w : World) (hn : os.length = n) (ho : OptsAt w la os) (hb : n ≤ 1048576) (hd : ∀ o ∈ os, o.d.length ≤ 1048576) :
    Calls Tryd.prog 95 #[.slice la n cap] w fun e w' => ∃ ma mc wa wc ps, e = .returned (.tuple #[.slice ma (n + 1) mc, .slice wa n wc]) ∧ Below w.heap.size w w' ∧ List.length ps = n ∧ n + 1 ≤ mc ∧ LaidAt w' os ma wa ps ∧ LaidNew w.heap.size ma wa ps := by
  obtain ⟨i0, hi, hz0, hz1, hz2⟩ := info_parts Tryd.infoOpt
  obtain ⟨j0, hj, hy0, hy1, hy2⟩ := info_parts Tryd.infoRow
  have HN : Hid (os.length = n) := hn
  have HO : Hid (OptsAt w la os) := ho
  have HD : Hid (∀ o ∈ os, o.d.length ≤ 1048576) := hd
  have HS0 : Hid (LaS w os (.slice none 0 0) (.slice none 0 0) 0 [] w) := ⟨World.ownsRow_nil _ _ _ _, World.ownsRow_nil _ _ _ _, by simp, by simp [vals], Below.refl _ _⟩
  clear hn ho hd
  go_enter Tryd.func95, Tryd.ntmps95
  go_wp2
  go_loopw [4, 5, 6] (fun l m ix wr => ∃ (k : Nat) (vm vw : Value) (ps : List OpV), vm = l ∧ vw = m ∧ ix = .int .i64 k ∧ k ≤ n ∧ Hid (LaS w os vm vw k ps wr)) (fun _ _ ix _ => n - (intOf ix).toNat)
  case atStart => exact ⟨0, _, _, [], rfl, rfl, rfl, Nat.zero_le _, HS0⟩
  case round =>
    obtain ⟨k, vm, vw, ps, rfl, rfl, rfl, hk, HS⟩ := hrel
    by_cases hlt : k < n
    · obtain ⟨o, hok⟩ : ∃ o, os[k]? = some o := ⟨_, List.getElem?_eq_getElem (by rw [HN.out]; exact hlt)⟩
      obtain ⟨b1, o1, rfl, hl1, ok1, c10, c11⟩ := HO.out.at k o hok
      have hdl := HD.out o (List.mem_of_getElem? hok)
      obtain ⟨kd, hkd⟩ : ∃ kd, kd = o.k := ⟨_, rfl⟩
      obtain ⟨D, hDD⟩ : ∃ D, D = o.d.length := ⟨_, rfl⟩
      rw [← hkd] at c10
      rw [← hDD] at c11 hdl
      have F10 : Hid (∀ x, Below w.heap.size w x → x.cell? ⟨b1, o1 + k * 2, none⟩ = some (.int .i64 kd)) := fun x hx => (hx.cell (p := ⟨b1, o1 + k * 2, none⟩) hl1).trans c10
      have F11 : Hid (∀ x, Below w.heap.size w x → x.cell? ⟨b1, o1 + k * 2 + 1, none⟩ = some (.slice o.a D o.c)) := fun x hx => (hx.cell (p := ⟨b1, o1 + k * 2 + 1, none⟩) hl1).trans c11
      have QW : Hid _ := wide_any o.a D o.c o.d wr hDD.symm (ok1.seg.old HS.out.bel) hdl
      have g11 := F11.out wr HS.out.bel
      have HVO : Hid (os[k]? = some o) := hok
      have HKD : Hid (kd = o.k) := hkd
      have HDD : Hid (D = o.d.length) := hDD
      have k0 : (0 : Int) ≤ (k : Int) := by omega
      have k1 : (k : Int) < (n : Int) := by omega
      have k2 : ((k : Int)).toNat = k := by omega
      have wk : IntKind.i64.wrap ((k : Int) + 1) = (k : Int) + 1 := by rw [IntKind.wrap_i64]; omega
      clear hok ok1 c10 c11 hkd hDD hl1
      go_wp2_with fail
      refine Calls.mono QW.out ?_
      rintro e w1 ⟨g, c, rfl, hog, hb1⟩
      have HS1 : Hid (LaS w os vm vw k ps w1) := HS.out.below hb1
      have HG1 : Hid (w1.ownsRow w.heap.size 5 1 (.slice (some ⟨g, 0, none⟩) (D + 3) c) (D + 3) ((toI (o.d ++ [91, 92, 93])).map (Value.int .u8))) := owns_mono hog HS.out.bel.size
      have hgc := (owns_at hog).2.1
      have hpl : ps.length = k := HS1.out.len (by rw [HN.out]; omega)
      have hown : w1.ownsRow w.heap.size 26 1 vw k (wCs ps) := by have := HS1.out.ownw; rw [hpl] at this; exact this
      have hsz : w.heap.size ≤ w1.heap.size := HS1.out.bel.size
      clear QW hog hb1 HS hpl g11
      go_wp2_with (first | (at_builtin; refine wpList_append_own_at _ rfl (.tmp 20) (.tmp 22) 50 rfl w.heap.size 26 j0 _ 1 24 Tryd.underlying50 hj hy0 hy1 hy2 rfl (by decide) vw k (wCs ps) rfl (hown.alloc _) ⟨w1.heap.size, 0, none⟩ 1 1 [.slice (some ⟨g, 0, none⟩) (D + 3) c] rfl rfl (one_new _ _ _) (by intro u hu; simp at hu; subst hu; rfl) (by unfold maxLen; omega) (by omega) (by first | omega | (simp; omega)) ?_))
      intro vw2 w2 how2 hg2 _ _
      have b1A : Below w1.heap.size w1 (w1.alloc (.cells #[.slice (some ⟨g, 0, none⟩) (D + 3) c] 26)) := (Below.refl _ _).alloc (Nat.le_refl _) _
      have HSA : Hid (LaS w os vm vw k ps (w1.alloc (.cells #[.slice (some ⟨g, 0, none⟩) (D + 3) c] 26))) := HS1.out.below b1A
      have hne1 : 5 ≠ 26 := by decide
      have hne2 : 43 ≠ 26 := by decide
      have HG2 : Hid (w2.ownsRow w.heap.size 5 1 (.slice (some ⟨g, 0, none⟩) (D + 3) c) (D + 3) ((toI (o.d ++ [91, 92, 93])).map (Value.int .u8))) := (owns_below HG1.out b1A).kept hg2 (apartN (owns_below HG1.out b1A) HSA.out.ownw hne1)
      have HR2 : Hid (∀ p ∈ ps, w2.ownsRow w.heap.size 5 1 (.slice p.a (p.d.length + 3) p.c) (p.d.length + 3) ((toI (p.d ++ [91, 92, 93])).map (Value.int .u8))) := fun p hp => (HSA.out.rows p hp).kept hg2 (apartN (HSA.out.rows p hp) HSA.out.ownw hne1)
      have HM2 : Hid (w2.ownsRow w.heap.size 43 2 vm ps.length (opCs ps)) := HSA.out.own.kept hg2 (apartN HSA.out.own HSA.out.ownw hne2)
      have HW2 : Hid (w2.ownsRow w.heap.size 26 1 vw2 (k + 1) (wCs ps ++ [.slice (some ⟨g, 0, none⟩) (D + 3) c])) := how2
      have HVS : Hid (vals ps = (vals os).take k) := HS1.out.vs
      have HB2 : Hid (Below w.heap.size w w2) := HSA.out.bel.grown hg2 (by simp; omega) (fun q hq => (HSA.out.ownw.lt q hq).1)
      have HPL : Hid (ps.length = k) := HS1.out.len (by rw [HN.out]; omega)
      have s0 : (0 : Int) ≤ (D : Int) := by omega
      have s1 : (D : Int) ≤ (c : Int) := by omega
      have s2 : ((D : Int)).toNat = D := by omega
      clear how2 hg2 b1A HSA hown hsz HS1 HG1 hne1 hne2
      go_wp2
      refine MixH.start (fun x => Below w.heap.size w x) (by kernel_rfl) ?_
      obtain ⟨wA, hwA⟩ : ∃ wA, wA = w2.drew := ⟨_, rfl⟩
      have b2A : Below w2.heap.size w2 wA := by rw [hwA]; exact (Below.refl _ _).drew
      have hS : Below w.heap.size w wA := bthen HB2.out b2A
      rw [← hwA]
      clear hwA
      refine MixH.takes [true, true, true, true, true, false, true, true, true, true, true] 8 (by kernel_rfl) (by kernel_rfl) (by decide) (by kernel_rfl) hS (fun K hK => ?_)
      simp only [Mix.pick]
      repeat (go_big_quiet_step (fail))
      refine wpQuiet_nil (hK _ ?_)
      clear hK K
      refine MixH.take 7 5 _ (.int .i64 kd) rfl (by kernel_rfl) (by kernel_rfl) (by kernel_rfl) (by kernel_rfl) (yields_int (.tmp 28) rfl ⟨b1, o1 + k * 2, none⟩ _ rfl rfl F10.out) hS (fun a' ha => ?_)
      simp only [Act.put, List.setIfInBounds_toArray, List.set_cons_succ, List.set_cons_zero] at ha
      subst ha
      refine MixH.take 6 11 _ (.slice o.a D o.c) rfl (by kernel_rfl) (by kernel_rfl) (by kernel_rfl) (by kernel_rfl) (yields_bytes (.tmp 34) rfl ⟨b1, o1 + k * 2 + 1, none⟩ _ rfl rfl F11.out) hS (fun a' ha => ?_)
      simp only [Act.put, List.setIfInBounds_toArray, List.set_cons_succ, List.set_cons_zero] at ha
      subst ha
      refine MixH.takes [false, false, false, false, false, false, false, false, false, false, false, false, true, true] 4 (by kernel_rfl) (by kernel_rfl) (by decide) (by kernel_rfl) hS (fun K hK => ?_)
      simp only [Mix.pick]
      repeat (go_big_quiet_step (fail))
      refine wpQuiet_nil (hK _ ?_)
      clear hK K
      refine MixH.one [false, false, false, false, false, false, false, false, false, false, false, false, false, false, true] 3 14 _ rfl rfl (by kernel_rfl) (by kernel_rfl) (fun K hK => ?_)
      simp only [Mix.pick]
      go_wp2
      refine ⟨rfl, hK _ _ hS ?_⟩
      clear hK K
      refine MixH.one [false, false, false, false, false, false, false, false, false, false, false, false, false, false, false, true] 2 15 _ rfl rfl (by kernel_rfl) (by kernel_rfl) (fun K hK => ?_)
      simp only [Mix.pick]
      have hSn : Below w.heap.size w (wA.alloc (.cells #[.int .i64 kd, .slice (some ⟨g, 0, none⟩) D c] 43)) := hS.alloc hS.size _
      go_wp2
      clear hS
      have hS := hSn
      refine ⟨rfl, hK _ _ hS ?_⟩
      clear hK K
      obtain ⟨w3, hw3⟩ : ∃ w3, w3 = wA.alloc (.cells #[.int .i64 kd, .slice (some ⟨g, 0, none⟩) D c] 43) := ⟨_, rfl⟩
      have TWO : Hid (∀ j u, ([.int .i64 kd, .slice (some ⟨g, 0, none⟩) D c] : List Value)[j]? = some u → w3.cell? ((⟨wA.heap.size, 0, none⟩ : Addr).add j) = some u) := by rw [hw3]; exact two_new _ _ _ _
      have b23 : Below w2.heap.size w2 w3 := by rw [hw3]; exact b2A.alloc b2A.size _
      rw [← hw3] at hS hSn ⊢
      have HM3 : Hid (w3.ownsRow w.heap.size 43 2 vm ps.length (opCs ps)) := owns_below HM2.out b23
      have HG3 : Hid (w3.ownsRow w.heap.size 5 1 (.slice (some ⟨g, 0, none⟩) (D + 3) c) (D + 3) ((toI (o.d ++ [91, 92, 93])).map (Value.int .u8))) := owns_below HG2.out b23
      have HR3 : Hid (∀ p ∈ ps, w3.ownsRow w.heap.size 5 1 (.slice p.a (p.d.length + 3) p.c) (p.d.length + 3) ((toI (p.d ++ [91, 92, 93])).map (Value.int .u8))) := fun p hp => owns_below (HR2.out p hp) b23
      have HW3 : Hid (w3.ownsRow w.heap.size 26 1 vw2 (k + 1) (wCs ps ++ [.slice (some ⟨g, 0, none⟩) (D + 3) c])) := owns_below HW2.out b23
      have HB3 : Hid (Below w.heap.size w w3) := bthen HB2.out b23
      have hown : w3.ownsRow w.heap.size 43 2 vm k (opCs ps) := by have := HM3.out; rw [HPL.out] at this; exact this
      have hsz : w.heap.size ≤ w3.heap.size := HB3.out.size
      clear hw3 hSn HM2 HG2 HR2 HW2 b23 b2A
      refine MixH.one [false, false, false, false, false, false, false, false, false, false, false, false, false, false, false, false, true] 1 16 _ rfl rfl (by kernel_rfl) (by kernel_rfl) (fun K hK => ?_)
      simp only [Mix.pick]
      refine wpList_append_own_at _ rfl (.tmp 24) (.tmp 39) 25 rfl w.heap.size 43 i0 _ 2 32 Tryd.underlying25 hi hz0 hz1 hz2 rfl (by decide) vm k (opCs ps) rfl hown ⟨wA.heap.size, 0, none⟩ 1 1 [.int .i64 kd, .slice (some ⟨g, 0, none⟩) D c] rfl rfl TWO.out ?c2 ?c3 ?c4 hsz ?_
      case c2 => intro u hu; simp at hu; rcases hu with rfl | rfl <;> rfl
      case c3 => unfold maxLen; omega
      case c4 => omega
      intro vm5 w5 ho5 hg5 _ hblk
      have HS5 : Hid (LaS w os vm5 vw2 (k + 1) (ps ++ [⟨kd, some ⟨g, 0, none⟩, c, o.d⟩]) w5) := by
        have hne : 5 ≠ 43 := by decide
        have hne2 : 26 ≠ 43 := by decide
        refine ⟨?_, ?_, ?_, ?_, ?_⟩
        · rw [opCs_snoc, List.length_append, HPL.out]
          have e2 : OpCells ⟨kd, some ⟨g, 0, none⟩, c, o.d⟩ = [.int .i64 kd, .slice (some ⟨g, 0, none⟩) D c] := by rw [OpCells, ← HDD.out]
          rw [e2]
          exact ho5
        · have e3 : wCs (ps ++ [⟨kd, some ⟨g, 0, none⟩, c, o.d⟩]) = wCs ps ++ [.slice (some ⟨g, 0, none⟩) (D + 3) c] := by unfold wCs; rw [List.map_append, HDD.out]; rfl
          rw [e3, List.length_append, HPL.out]
          exact HW3.out.kept hg5 (apartN HW3.out HM3.out hne2)
        · intro p hp
          rcases List.mem_append.1 hp with hp | hp
          · exact (HR3.out p hp).kept hg5 (apartN (HR3.out p hp) HM3.out hne)
          · simp at hp
            subst hp
            show w5.ownsRow w.heap.size 5 1 (.slice (some ⟨g, 0, none⟩) (o.d.length + 3) c) (o.d.length + 3) _
            rw [← HDD.out]
            exact HG3.out.kept hg5 (apartN HG3.out HM3.out hne)
        · rw [vals_take os k o HVO.out, vals, List.map_append]
          have := HVS.out
          rw [vals] at this
          rw [this]
          simp [OpV.val, HKD.out]
        · exact HB3.out.grown hg5 hsz (fun q hq => (HM3.out.lt q hq).1)
      have hS5 : Below w.heap.size w w5 := HS5.out.bel
      clear hS
      have hS := hS5
      clear ho5 hg5 hblk hown TWO hS5
      go_wp2
      refine ⟨rfl, hK _ _ hS ?_⟩
      clear hK K
      refine MixH.takes [false, false, false, false, false, false, false, false, false, false, false, false, false, false, false, false, false, true] 0 (by kernel_rfl) (by kernel_rfl) (by decide) (by kernel_rfl) hS (fun K hK => ?_)
      simp only [Mix.pick]
      repeat (go_big_quiet_step (fail))
      refine wpQuiet_nil (hK _ ?_)
      clear hK K
      refine MixH.done (by kernel_rfl) ?_
      go_wp2
      go_roundw
      case rel => exact ⟨k + 1, vm5, vw2, _, rfl, rfl, by go_num, by omega, HS5⟩
      case measure => simp [intOf]; omega
    · have hkn : k = n := by omega
      have hni : ¬ ((k : Int) < (n : Int)) := by omega
      have hpl : ps.length = k := HS.out.len (by rw [HN.out]; omega)
      have hown : wr.ownsRow w.heap.size 43 2 vm n (opCs ps) := by have := HS.out.own; rw [hpl, hkn] at this; exact this
      obtain ⟨wa, wc, rfl⟩ := owns_shape HS.out.ownw
      have HV : Hid (vals ps = vals os) := by show _ = _; rw [HS.out.vs, List.take_of_length_le (by simp [vals, HN.out]; omega)]
      have HP : Hid (ps.length = n) := by rw [hpl]; exact hkn
      have hsz : w.heap.size ≤ wr.heap.size := HS.out.bel.size
      rw [HP.out] at HS ⊢
      clear hlt hpl hkn
      go_wp2_with (first | (at_builtin; refine wpList_append_own_at _ rfl (.tmp 41) (.tmp 43) 25 rfl w.heap.size 43 i0 _ 2 32 Tryd.underlying25 hi hz0 hz1 hz2 rfl (by decide) vm n (opCs ps) rfl (hown.alloc _) ⟨wr.heap.size, 0, none⟩ 1 1 [.int .i64 99, .slice none 0 0] rfl rfl (two_new _ _ _ _) (by intro u hu; simp at hu; rcases hu with rfl | rfl <;> rfl) (by unfold maxLen; omega) (by omega) (by first | omega | (simp; omega)) ?_))
      intro vm5 w5 ho5 hg5 _ _
      obtain ⟨ma, mc, rfl⟩ := owns_shape ho5
      have b1A : Below wr.heap.size wr (wr.alloc (.cells #[.int .i64 99, .slice none 0 0] 43)) := (Below.refl _ _).alloc (Nat.le_refl _) _
      have HF : Hid (Below w.heap.size w w5 ∧ n + 1 ≤ mc ∧ LaidAt w5 os ma wa ps ∧ LaidNew w.heap.size ma wa ps) := by
        have hsA := HS.out.below b1A
        have hne : 5 ≠ 43 := by decide
        have hne2 : 26 ≠ 43 := by decide
        have hm5 : w5.ownsRow w.heap.size 43 2 (.slice ma (n + 1) mc) (n + 1) (opCs (ps ++ [op99])) := by rw [opCs_snoc]; exact ho5
        have hcap : n + 1 ≤ mc := by
          rcases hm5.2 with ⟨_, h0⟩ | ⟨g', cap', cur, e, _, _, h1, _⟩
          · omega
          · simp only [Value.slice.injEq, true_and] at e
            rw [e.2]; exact h1
        have hw5 := hsA.ownw.kept hg5 (apartN hsA.ownw hsA.own hne2)
        rw [HP.out] at hw5
        exact ⟨hsA.bel.grown hg5 (by simp; omega) (fun q hq => (hsA.own.lt q hq).1), hcap, LaS.laid hm5 hw5 (fun p hp => (hsA.rows p hp).kept hg5 (apartN (hsA.rows p hp) hsA.own hne)) HP.out HV.out (opts_256 HO.out), fun x hx => (own_blk hm5 x hx).1, fun x hx => (own_blk hw5 x hx).1, fun p hp x hx => (own_blk (hsA.rows p hp) x hx).1⟩
      clear ho5 hg5 b1A hown
      go_wp2
      go_ret2
      exact ⟨ma, mc, wa, wc, ps, rfl, HF.out.1, HP.out, HF.out.2.1, HF.out.2.2⟩
end Go.Proofs.YtdinhgfkpjaipaaDoor
namespace Go.Proofs.YtdinhgfkpjaipaaDoor
open Go.RowKit Go.ChangeShapes Go.WideShapes
open I4 (H4)

/-- one call: its kind, the bytes, the datagram, the options -/
structure OpR where
  kind : Int
  ba : Option Addr
  bn : Nat
  bc : Nat
  bs : List Nat
  h : H4
  la : Option Addr
  ln : Nat
  lc : Nat
  os : List OpV
  da : Option Addr
  n : Nat
  c : Nat
  ma : Option Addr
  mn : Nat
  mc : Nat
  ms : List OpV
def OpR.cells (o : OpR) : List Value := [.int .i64 o.kind, .slice o.ba o.bn o.bc] ++ ((h4C o.h (.slice o.la o.ln o.lc) (.slice o.da o.n o.c)).toList ++ [.slice o.ma o.mn o.mc])
structure OpR.Ok (w : World) (o : OpR) : Prop where
  bl : o.bs.length = o.bn
  bseg : Seg .u8 w o.ba (toI o.bs)
  bcap : o.bn ≤ o.bc
  bm : o.bn ≤ 1048576
  bcm : o.bc ≤ 9223372036854775807
  b256 : ∀ x ∈ o.bs, x < 256
  hok : H4Ok w o.h o.la o.ln o.lc o.os o.da o.n o.c
  hsm : H4Sm o.ln o.os o.n
  ml : o.ms.length = o.mn
  mo : OptsAt w o.ma o.ms
  mm : o.mn ≤ 1048576
  md : ∀ x ∈ o.ms, x.d.length ≤ 1048576
theorem OpR.Ok.old {w w' : World} {o : OpR} (h : o.Ok w) (hb : Below w.heap.size w w') : o.Ok w' :=
  ⟨h.bl, h.bseg.old hb, h.bcap, h.bm, h.bcm, h.b256, h.hok.old hb, h.hsm, h.ml, h.mo.old hb, h.mm, h.md⟩
theorem Tryd.cellsR' : Tryd.prog.cellsOf 103 = 46 := by kernel_rfl
theorem OpR.cells_len (o : OpR) : o.cells.length = 46 := rfl
section
variable {H : Type} {enc : TypeId × Value → H} {W : World}
set_option maxRecDepth 100000 in
set_option maxHeartbeats 1600000 in
theorem open_opR (fuel : Nat) (cs : List Value) (x : DataW H × List MemPlace) (hf : DataW.trod enc Tryd.prog W 0 (fun _ => true) true fuel 103 cs = some x) (hbk : Rows.uptoBulk x.1 ≤ 1048576) : ∃ o : OpR, cs = o.cells ∧ o.Ok W := by
  obtain ⟨xs, n, _, hx, hl, hlen, hfs⟩ := DataW.trod_struct Tryd.underlying103 hf
  rw [Tryd.cellsR'] at hl
  have f0 : DataW.trod enc Tryd.prog W 0 (fun _ => true) true n 3 ((cs.drop 0).take (Tryd.prog.cellsOf 3)) = xs[0]? := hfs 0 _ rfl
  have f1 : DataW.trod enc Tryd.prog W 0 (fun _ => true) true n 26 ((cs.drop 1).take (Tryd.prog.cellsOf 26)) = xs[1]? := hfs 1 _ rfl
  have f2 : DataW.trod enc Tryd.prog W 0 (fun _ => true) true n 28 ((cs.drop 2).take (Tryd.prog.cellsOf 28)) = xs[2]? := hfs 2 _ rfl
  have f3 : DataW.trod enc Tryd.prog W 0 (fun _ => true) true n 25 ((cs.drop 45).take (Tryd.prog.cellsOf 25)) = xs[3]? := hfs 3 _ rfl
  have hxl : xs.length = 4 := hlen
  rw [Tryd.cellsI'] at f0
  rw [Tryd.cellsS'] at f1
  rw [Tryd.cellsH'] at f2
  rw [Tryd.cellsL'] at f3
  rw [List.getElem?_eq_getElem (by omega)] at f0 f1 f2 f3
  have hd : x.1 = .agg (xs.map (·.1)) := (Prod.mk.inj hx).1
  have hbb : ∀ i (hi : i < xs.length), Rows.uptoBulk xs[i].1 ≤ 1048576 := by
    intro i hi
    have := bulk_memG (d := xs[i].1) (l := xs.map (·.1)) (List.mem_map.2 ⟨xs[i], List.getElem_mem hi, rfl⟩)
    rw [hd] at hbk
    simp only [Rows.uptoBulk] at hbk
    omega
  obtain ⟨z0, e0, _, _⟩ := DataW.trod_int Tryd.underlying3 f0
  obtain ⟨ba, bn, bc, zs, e1, hrow, hcap⟩ := open_bytes f1
  obtain ⟨bs, hbl, hseg, h1, h2, h3⟩ := hrow.bytes
  have hc1 := hbb 1 (by omega)
  obtain ⟨h, la, ln, lc, os, da, dn, dc, e2, hok, hsm⟩ := open_h4c (by simp; omega) f2 (hbb 2 (by omega))
  obtain ⟨ma, mn, mc, ms, e3, hml, hmo, hmm, hmd⟩ := open_optl f3 (hbb 3 (by omega))
  refine ⟨⟨z0, ba, bn, bc, bs, h, la, ln, lc, os, da, dn, dc, ma, mn, mc, ms⟩, ?_, ⟨hbl, hseg, h1, by show bn ≤ _; omega, h2, h3, hok, hsm, hml, hmo, hmm, hmd⟩⟩
  have hall : cs = [.int .i64 z0] ++ ([.slice ba bn bc] ++ ((h4C h (.slice la ln lc) (.slice da dn dc)).toList ++ ([.slice ma mn mc] ++ cs.drop 46))) := by
    conv => lhs; rw [← List.drop_zero (l := cs)]
    rw [drop_piece cs _ 0 1 e0, drop_piece cs _ 1 1 e1, drop_piece cs _ 2 43 e2, drop_piece cs _ 45 1 e3]
  have hnil : cs.drop 46 = [] := List.drop_eq_nil_of_le (by omega)
  rw [hnil] at hall
  rw [hall]
  rfl
theorem open_script {fuel : Nat} {a : Option Addr} {len cap : Nat} {d : DataW H} {p : List MemPlace} (hf : DataW.trod enc Tryd.prog W 0 (fun _ => true) true fuel 54 [.slice a len cap] = some (d, p)) (hb : Rows.uptoBulk d ≤ 1048576) :
    ∃ rs : List OpR, rs.length = len ∧ ListG 46 OpR.cells (OpR.Ok W) W a rs ∧ len ≤ 1048576 :=
  open_list 46 OpR.cells (OpR.Ok W) Tryd.underlying54 Tryd.cellsR' (by decide) OpR.cells_len open_opR hf hb
end
end Go.Proofs.YtdinhgfkpjaipaaDoor
namespace Go.Proofs.YtdinhgfkpjaipaaDoor
open Go.RowKit
open I4 (H4)

set_option maxHeartbeats 6400000 in
set_option maxRecDepth 100000 in
theorem same_laid (ma wa la : Option Addr) (n mc wc lc : Nat) (os ps : List OpV) (w : World) (hn : os.length = n) (hp : ps.length = n) (hm : n + 1 ≤ mc) (hl : LaidAt w os ma wa ps) (ho : OptsAt w la os) (hb : n ≤ 1048576) (hd : ∀ o ∈ os, o.d.length ≤ 1048576) :
    Calls Tryd.prog 98 #[.slice ma (n + 1) mc, .slice wa n wc, .slice la n lc] w fun e w' => e = .returned (.bool true) ∧ Below w.heap.size w w' := by
  have h99 : (ps ++ [op99])[n]? = some op99 := by rw [List.getElem?_append_right (by omega), hp, Nat.sub_self]; rfl
  obtain ⟨bm, om, rfl, hlm, _, cm0, _⟩ := hl.opts.at n op99 h99
  have c99 : w.cell? ⟨bm, om + n * 2, none⟩ = some (.int .i64 99) := cm0
  have QS : Hid _ := sameOpts_true (some ⟨bm, om, none⟩) la n mc lc ps os w hl.opts.front ho hp hl.vs (by omega)
  have HN : Hid (os.length = n) := hn
  have HP : Hid (ps.length = n) := hp
  have HL : Hid (∀ A, Below w.heap.size w A → LaidAt A os (some ⟨bm, om, none⟩) wa ps) := fun A hA => hl.old hA
  have HO : Hid (∀ A, Below w.heap.size w A → OptsAt A la os) := fun A hA => ho.old hA
  have HD : Hid (∀ o ∈ os, o.d.length ≤ 1048576) := hd
  have HVS : Hid (vals ps = vals os) := hl.vs
  have w1 : IntKind.i64.wrap ((n : Int) + 1) = (n : Int) + 1 := by rw [IntKind.wrap_i64]; omega
  have q1 : (((n + 1 : Nat) : Int) != (n : Int) + 1) = false := by simp
  have k0 : (0 : Int) ≤ (n : Int) := by omega
  have k1 : (n : Int) < ((n + 1 : Nat) : Int) := by omega
  have k2 : ((n : Int)).toNat = n := by omega
  have k3 : (n : Int) ≤ (mc : Int) := by omega
  clear hn hp hl ho hd h99 cm0 hlm
  go_enter Tryd.func98, Tryd.ntmps98
  go_wp2_with fail
  refine Calls.mono QS.out ?_
  rintro e w1' ⟨rfl, bel1⟩
  clear QS c99
  go_wp2
  go_loopw [8] (fun ix wr => ∃ k : Nat, ix = .int .i64 k ∧ k ≤ n ∧ Hid (Below w.heap.size w wr)) (fun ix _ => n - (intOf ix).toNat)
  case atStart => exact ⟨0, rfl, Nat.zero_le _, bel1⟩
  case round =>
    obtain ⟨k, rfl, hk, HBE⟩ := hrel
    by_cases hlt : k < n
    · obtain ⟨o, hok⟩ : ∃ o, os[k]? = some o := ⟨_, List.getElem?_eq_getElem (by rw [HN.out]; exact hlt)⟩
      obtain ⟨p, hpk⟩ : ∃ p, ps[k]? = some p := ⟨_, List.getElem?_eq_getElem (by rw [HP.out]; exact hlt)⟩
      have hpo : p.d = o.d := by
        have h1 : (vals ps)[k]? = (vals os)[k]? := by rw [HVS.out]
        simp only [vals, List.getElem?_map, hpk, hok, Option.map_some, Option.some.injEq] at h1
        exact congrArg Prod.snd h1
      obtain ⟨gw, g, rfl, hgw, cw, hsg, hcap, _⟩ := (HL.out w (Below.refl _ _)).wb k p hpk
      obtain ⟨b1, o1, rfl, hl1, ok1, _, c11⟩ := (HO.out w (Below.refl _ _)).at k o hok
      have hdl := HD.out o (List.mem_of_getElem? hok)
      rw [hpo] at cw hsg hcap
      obtain ⟨D, hDD⟩ : ∃ D, D = o.d.length := ⟨_, rfl⟩
      rw [← hDD] at c11 hdl cw hcap
      have F3 : Hid (∀ x, Below w.heap.size w x → x.cell? ⟨gw, k, none⟩ = some (.slice (some ⟨g, 0, none⟩) (D + 3) p.c)) := fun x hx => (hx.cell (p := ⟨gw, k, none⟩) hgw).trans cw
      have F8 : Hid (∀ x, Below w.heap.size w x → x.cell? ⟨b1, o1 + k * 2 + 1, none⟩ = some (.slice o.a D o.c)) := fun x hx => (hx.cell (p := ⟨b1, o1 + k * 2 + 1, none⟩) hl1).trans c11
      have QK : Hid (∀ x, Below w.heap.size w x → Calls Tryd.prog 26 #[.slice (some ⟨g, 0, none⟩) (D + 3) p.c, .slice o.a D o.c] x fun e w' => e = .returned (.bool true) ∧ x = w') := fun x hx => kept_any g 0 o.a D p.c o.c o.d x hDD.symm (hsg.old hx) (ok1.seg.old hx) ok1.h256 hcap hdl
      have j0 : (0 : Int) ≤ (k : Int) := by omega
      have j1 : (k : Int) < (n : Int) := by omega
      have j2 : ((k : Int)).toNat = k := by omega
      have wk : IntKind.i64.wrap ((k : Int) + 1) = (k : Int) + 1 := by rw [IntKind.wrap_i64]; omega
      clear hok hpk hpo cw hsg hcap hl1 ok1 c11 hDD hgw
      go_wp2
      refine MixH.start (fun x => Below w.heap.size w x) (by kernel_rfl) ?_
      obtain ⟨wA, hwA⟩ : ∃ wA, wA = wr.drew := ⟨_, rfl⟩
      have hS : Below w.heap.size w wA := by rw [hwA]; exact HBE.out.drew
      rw [← hwA]
      clear hwA HBE
      refine MixH.takes [true, true, true, false, true, true, true, true] 4 (by kernel_rfl) (by kernel_rfl) (by decide) (by kernel_rfl) hS (fun K hK => ?_)
      simp only [Mix.pick]
      repeat (go_big_quiet_step (fail))
      refine wpQuiet_nil (hK _ ?_)
      clear hK K
      refine MixH.take 3 3 _ (.slice (some ⟨g, 0, none⟩) (D + 3) p.c) rfl (by kernel_rfl) (by kernel_rfl) (by kernel_rfl) (by kernel_rfl) (yields_bytes (.tmp 40) rfl ⟨gw, k, none⟩ _ rfl rfl F3.out) hS (fun a' ha => ?_)
      simp only [Act.put, List.setIfInBounds_toArray, List.set_cons_succ, List.set_cons_zero] at ha
      subst ha
      refine MixH.take 2 8 _ (.slice o.a D o.c) rfl (by kernel_rfl) (by kernel_rfl) (by kernel_rfl) (by kernel_rfl) (yields_bytes (.tmp 45) rfl ⟨b1, o1 + k * 2 + 1, none⟩ _ rfl rfl F8.out) hS (fun a' ha => ?_)
      simp only [Act.put, List.setIfInBounds_toArray, List.set_cons_succ, List.set_cons_zero] at ha
      subst ha
      refine MixH.one [false, false, false, false, false, false, false, false, false, true] 1 9 _ rfl rfl (by kernel_rfl) (by kernel_rfl) (fun K hK => ?_)
      simp only [Mix.pick]
      go_wp2_with fail
      refine Calls.mono (QK.out wA hS) ?_
      rintro e wN ⟨rfl, rfl⟩
      go_wp2
      refine ⟨rfl, hK _ _ hS ?_⟩
      clear hK K
      refine MixH.takes [false, false, false, false, false, false, false, false, false, false, true] 0 (by kernel_rfl) (by kernel_rfl) (by decide) (by kernel_rfl) hS (fun K hK => ?_)
      simp only [Mix.pick]
      repeat (go_big_quiet_step (fail))
      refine wpQuiet_nil (hK _ ?_)
      clear hK K
      refine MixH.done (by kernel_rfl) ?_
      go_wp2
      go_roundw
      case rel => exact ⟨k + 1, by go_num, by omega, hS⟩
      case measure => simp [intOf]; omega
    · have hni : ¬ ((k : Int) < (n : Int)) := by omega
      clear hlt
      go_wp2
      go_ret
      exact ⟨rfl, HBE.out⟩
theorem Tryd.sizeOp : (Tryd.prog.info? 103).map (·.size) = some 46 := by kernel_rfl
/-- a call in a block of its own -/
def OpAt (w : World) (O : Nat) (o : OpR) : Prop := w.heap[O]? = some (.cells o.cells.toArray 103 (0, 0))
section
variable {w : World} {O : Nat} {o : OpR} (k : OpAt w O o)
include k
theorem OpAt.lt : O < w.heap.size := (Array.getElem?_eq_some_iff.1 k).1
theorem OpAt.ch {S : Nat → Prop} {w' : World} (c : Ch S w w') (hS : ¬ S O) : OpAt w' O o := (c.block O k.lt hS).trans k
theorem OpAt.below {w' : World} (c : Below w.heap.size w w') : OpAt w' O o := (c.block O k.lt).trans k
theorem OpAt.cell (i : Nat) : w.cell? ⟨O, i, none⟩ = o.cells[i]? := by unfold OpAt at k; simp [World.cell?, k]
theorem OpAt.c0 : w.cell? ⟨O, 0, none⟩ = some (.int .i64 o.kind) := k.cell 0
theorem OpAt.c1 : w.cell? ⟨O, 1, none⟩ = some (.slice o.ba o.bn o.bc) := k.cell 1
theorem OpAt.c43 : w.cell? ⟨O, 43, none⟩ = some (.slice o.la o.ln o.lc) := k.cell 43
theorem OpAt.c44 : w.cell? ⟨O, 44, none⟩ = some (.slice o.da o.n o.c) := k.cell 44
theorem OpAt.c45 : w.cell? ⟨O, 45, none⟩ = some (.slice o.ma o.mn o.mc) := k.cell 45
theorem OpAt.h : w.rangeAt O 2 (h4C o.h (.slice o.la o.ln o.lc) (.slice o.da o.n o.c)).toList := by
  intro j v hj
  rw [k.cell]
  have hl : j < 43 := (List.getElem?_eq_some_iff.1 hj).1
  unfold OpR.cells
  rw [List.getElem?_append_right (by simp), List.getElem?_append_left (by simp [h4C_size]; omega)]
  simpa using hj
end
theorem opAt_new (w : World) (o : OpR) : OpAt (w.alloc (.cells o.cells.toArray 103)) w.heap.size o := heap_alloc_new _ _
theorem wpList_load_h4m {ops : Array Oper} {rest : List Oper} {p : Oper} {a : Act} {w : World} {Q : Exit → Act → World → Prop} (x : Operand) (ho : p.op = .load 28 x) (O : Nat) (o : OpR) (hx : a.eval x = .pointer (some ⟨O, 2, none⟩)) (hb : OpAt w O o)
    (hw : Region.wanted p (yielded ops a.tmps) = true) (h : wpList Tryd.prog ops Q rest (a.put p.dst (.agg (h4C o.h (.slice o.la o.ln o.lc) (.slice o.da o.n o.c)))) w) : wpList Tryd.prog ops Q (p :: rest) a w := by
  refine wpList_step fun K hK => ?_
  rw [if_pos hw]
  exact wp_load_mid 28 x ho O 2 hx _ _ hb.h Tryd.underlying28 rfl Tryd.sizeH4 (hK _ _ h)
theorem yields_h4m {ops : Array Oper} {p : Oper} {a : Act} {S : World → Prop} (x : Operand) (ho : p.op = .load 28 x) (O : Nat) (o : OpR) (hx : a.eval x = .pointer (some ⟨O, 2, none⟩)) (hw : Region.wanted p (yielded ops a.tmps) = true) (hS : ∀ w, S w → OpAt w O o) : YieldsIf Tryd.prog ops S p (.agg (h4C o.h (.slice o.la o.ln o.lc) (.slice o.da o.n o.c))) a :=
  yieldsIf_load_mid hw 28 x ho O 2 hx _ _ (fun w h => (hS w h).h) Tryd.underlying28 rfl Tryd.sizeH4
def opz : OpR := ⟨0, none, 0, 0, [], h4z, none, 0, 0, [], none, 0, 0, none, 0, 0, []⟩
set_option maxRecDepth 100000 in
theorem wpList_alloc_op {ops : Array Oper} {rest : List Oper} {o : Oper} {a : Act} {w : World} {Q : Exit → Act → World → Prop} (ho : o.op = .alloc 103) (hw : Region.wanted o (yielded ops a.tmps) = true)
    (h : wpList Tryd.prog ops Q rest (a.put o.dst (.pointer (some ⟨w.heap.size, 0, none⟩))) (w.alloc (.cells opz.cells.toArray 103))) : wpList Tryd.prog ops Q (o :: rest) a w := by
  refine wpList_step fun K hK => ?_
  rw [if_pos hw]
  have hrun : (execOp a.eval o).run Tryd.prog w = .ok (.value (.pointer (some ⟨w.heap.size, 0, none⟩))) (w.alloc (.cells opz.cells.toArray 103)) := by
    obtain ⟨dst, op, type, pos, after, guard⟩ := o
    simp only at ho
    subst ho
    simp only [execOp]
    go_simp
    rfl
  unfold Oper.wp
  rw [hrun]
  exact hK _ _ h
theorem wpList_store_op {ops : Array Oper} {rest : List Oper} {p : Oper} {a : Act} {w : World} {Q : Exit → Act → World → Prop} (x y : Operand) (ho : p.op = .store 103 x y) (hd : p.dst = none) (O : Nat) (o o' : OpR) (hx : a.eval x = .pointer (some ⟨O, 0, none⟩)) (hy : a.eval y = .agg o'.cells.toArray) (hb : OpAt w O o)
    (hw : Region.wanted p (yielded ops a.tmps) = true) (hh : ∀ w', OpAt w' O o' → Ch (fun q => q = O) w w' → wpList Tryd.prog ops Q rest a w') : wpList Tryd.prog ops Q (p :: rest) a w := by
  refine wpList_step fun K hK => ?_
  rw [if_pos hw]
  refine wp_store_row 103 x y ho O o'.cells.toArray hx hy _ o.cells.toArray hb Tryd.sizeOp rfl (by simp [OpR.cells, h4C, Value.oneCell']) (hK _ _ ?_)
  rw [hd]
  refine hh _ (setRow_heap w O _ _ _ _ hb) ⟨rfl, rfl, rfl, ?_, ?_⟩
  · simp [World.setRow]
  · intro k hk hne
    simp only [World.setRow]
    rw [Array.getElem?_modify, if_neg (fun e => hne e.symm)]
theorem wpList_load_op {ops : Array Oper} {rest : List Oper} {p : Oper} {a : Act} {w : World} {Q : Exit → Act → World → Prop} (x : Operand) (ho : p.op = .load 103 x) (O : Nat) (o : OpR) (hx : a.eval x = .pointer (some ⟨O, 0, none⟩)) (hb : OpAt w O o)
    (hw : Region.wanted p (yielded ops a.tmps) = true) (hh : wpList Tryd.prog ops Q rest (a.put p.dst (.agg o.cells.toArray)) w) : wpList Tryd.prog ops Q (p :: rest) a w := by
  refine wpList_step fun K hK => ?_
  rw [if_pos hw]
  exact wp_load_row 103 x ho O hx _ _ _ _ hb Tryd.underlying103 rfl Tryd.sizeOp (hK _ _ hh)
theorem wpList_load_opm {ops : Array Oper} {rest : List Oper} {p : Oper} {a : Act} {w : World} {Q : Exit → Act → World → Prop} (x : Operand) (ho : p.op = .load 103 x) (b off : Nat) (o : OpR) (hx : a.eval x = .pointer (some ⟨b, off, none⟩)) (hb : w.rangeAt b off o.cells)
    (hw : Region.wanted p (yielded ops a.tmps) = true) (hh : wpList Tryd.prog ops Q rest (a.put p.dst (.agg o.cells.toArray)) w) : wpList Tryd.prog ops Q (p :: rest) a w := by
  refine wpList_step fun K hK => ?_
  rw [if_pos hw]
  exact wp_load_mid 103 x ho b off hx o.cells _ hb Tryd.underlying103 rfl Tryd.sizeOp (hK _ _ hh)
end Go.Proofs.YtdinhgfkpjaipaaDoor
namespace Go.Proofs.YtdinhgfkpjaipaaDoor
open Go.RowKit
open I4 (H4)

set_option maxHeartbeats 12800000 in
set_option maxRecDepth 100000 in
theorem bytes_any (o : OpR) (w : World) (hw : Wid w) (ok : o.Ok w) :
    Calls Tryd.prog 66 #[.agg o.cells.toArray] w fun e w' => e = .returned (.bool true) ∧ Below w.heap.size w w' := by
  obtain ⟨W, hW⟩ : ∃ W, W = w.alloc (.cells o.cells.toArray 103) := ⟨_, rfl⟩
  obtain ⟨O, hO⟩ : ∃ O, O = w.heap.size := ⟨_, rfl⟩
  have bel : Below w.heap.size w W := by rw [hW]; exact (Below.refl _ _).alloc (Nat.le_refl _) _
  have HB : Hid (OpAt W O o) := by rw [hW, hO]; exact opAt_new _ _
  obtain ⟨C, hC⟩ : ∃ C, C = o.cells.toArray := ⟨_, rfl⟩
  have HW : Hid (w.alloc (.cells C 103) = W) := by rw [hC]; exact hW.symm
  have HO : Hid (w.heap.size = O) := hO.symm
  rw [← hC]
  have HK : Hid (o.Ok w) := ok
  have HWID : Hid (∀ A, Below w.heap.size w A → Wid A) := fun A hA => hw.old hA
  have QW : Hid _ := wide_any o.ba o.bn o.bc o.bs W ok.bl (ok.old bel).bseg ok.bm
  have d1 := HB.out.c1
  have hbm := ok.bm
  clear hW hC hO ok hw
  go_enter Tryd.func66, Tryd.ntmps66
  go_upto_region 1 with fail
  rw [HW.out, HO.out]
  go_wp2_with fail
  refine Calls.mono QW.out ?_
  rintro e w1 ⟨g, c, rfl, hog, hb1⟩
  have bel1 := bthen bel hb1
  have HB1 : Hid (OpAt w1 O o) := OpAt.below HB.out hb1
  have HG : Hid (w1.ownsRow W.heap.size 5 1 (.slice (some ⟨g, 0, none⟩) (o.bn + 3) c) (o.bn + 3) ((toI (o.bs ++ [91, 92, 93])).map (Value.int .u8))) := hog
  have hcp := (owns_at hog).2
  have BW : Hid (∀ A, Below w1.heap.size w1 A → Below w.heap.size w A) := fun A hA => bthen bel1 hA
  have HSG : Hid (∀ A, Below w1.heap.size w1 A → Seg .u8 A (some ⟨g, 0, none⟩) (toI o.bs)) := fun A hA => by
    have h1 := (owns_at (owns_below HG.out hA)).1.part0 o.bn (by rw [toI_len, List.length_append, HK.out.bl]; simp)
    rw [toI_take, List.take_append_of_le_length (by rw [HK.out.bl]; exact Nat.le_refl _), List.take_of_length_le (by rw [HK.out.bl]; exact Nat.le_refl _)] at h1
    exact h1
  have HC0 : Hid (∀ A, Below w1.heap.size w1 A → A.cell? ⟨O, 0, none⟩ = some (.int .i64 o.kind)) := fun A hA => (OpAt.below HB1.out hA).c0
  have HC1 : Hid (∀ A, Below w1.heap.size w1 A → A.cell? ⟨O, 1, none⟩ = some (.slice o.ba o.bn o.bc)) := fun A hA => (OpAt.below HB1.out hA).c1
  have HKEPT : Hid (∀ A, Below w1.heap.size w1 A → Calls Tryd.prog 26 #[.slice (some ⟨g, 0, none⟩) (o.bn + 3) c, .slice o.ba o.bn o.bc] A fun e w' => e = .returned (.bool true) ∧ A = w') := fun A hA => kept_any g 0 o.ba o.bn c o.bc o.bs A HK.out.bl (owns_at (owns_below HG.out hA)).1 (HK.out.old (BW.out A hA)).bseg HK.out.b256 (owns_at HG.out).2.1 HK.out.bm
  have s0 : (0 : Int) ≤ (o.bn : Int) := by omega
  have s1 : (o.bn : Int) ≤ (c : Int) := by have := hcp.1; omega
  have s2 : ((o.bn : Int)).toNat = o.bn := by omega
  have hcb : o.bn ≤ c := by have := hcp.1; omega
  have hcm : c ≤ 9223372036854775807 := hcp.2
  have e0 := HC0.out w1 (Below.refl _ _)
  have e1 := HC1.out w1 (Below.refl _ _)
  obtain ⟨kd, hkd⟩ : ∃ kd, kd = o.kind := ⟨_, rfl⟩
  rw [← hkd] at e0 HC0
  have HOW : Hid (O < W.heap.size) := HB.out.lt
  have HWW : Hid (w.heap.size ≤ W.heap.size) := bel.size
  clear QW hb1 HB HW bel d1 hog hcp hkd
  by_cases k1 : kd = 1
  · subst k1
    have QP : Hid _ := parse_two (some ⟨g, 0, none⟩) c o.bn o.bs w1 HK.out.bl (HWID.out w1 bel1) (HSG.out w1 (Below.refl _ _)) HK.out.b256 hcb hcm
    obtain ⟨E, hE⟩ : ∃ E, E = I4.pE o.bs := ⟨_, rfl⟩
    have HE : Hid (E = I4.pE o.bs) := hE
    rw [← hE] at QP
    clear hE
    go_wp2_with fail
    refine Calls.mono QP.out ?_
    rintro e w2 ⟨CC, rfl, hb2, hres⟩
    clear QP
    have eqE : ((E : Int) == (E : Int)) = true := by simp
    rcases hres with ⟨hne, rfl⟩ | ⟨h0, hrd⟩
    · have HNE : Hid (I4.pE o.bs ≠ 0) := by rw [← HE.out]; exact hne
      clear hne
      go_wp2_with (first | (refine wpList_alloc_h4 rfl rfl ?_) | (refine wpList_store_h4 (.tmp 6) (.tmp 32) rfl rfl w2.heap.size h4z h4z nilS nilS nilS nilS rfl rfl rfl rfl (h4At_new _ _ _ _) rfl ?_))
      intro w3 hP3 k3
      have S3 : Below w1.heap.size w1 w3 := bthen hb2 (stored_below k3)
      have HP3 : Hid (H4At w3 w2.heap.size h4z nilS nilS) := hP3
      have e3 := HC1.out w3 S3
      have QR : Hid _ := rparse_any o.ba o.bn o.bc o.bs w3 HK.out.bl (HK.out.old (BW.out w3 S3)).bseg HK.out.b256 HK.out.bcap HK.out.bcm HK.out.bm
      clear hP3 k3 hb2
      go_wp2_with fail
      refine Calls.mono QR.out ?_
      rintro e w4 ⟨hb4, hr⟩
      rcases hr with ⟨_, rfl⟩ | ⟨h0, _⟩
      case inr => exact absurd h0 HNE.out
      rw [← HE.out]
      have HP4 : Hid (H4At w4 w2.heap.size h4z nilS nilS) := H4At.below HP3.out hb4
      have S4 : Below w1.heap.size w1 w4 := bthen S3 hb4
      clear hb4 QR HP3 S3 e3
      go_wp2_with (first | (refine wpList_alloc_h4 rfl rfl ?_) | (refine wpList_store_h4 (.tmp 8) (.tmp 38) rfl rfl w4.heap.size h4z h4z nilS nilS nilS nilS rfl rfl rfl rfl (h4At_new _ _ _ _) rfl ?_))
      intro w5 hP5 k5
      have S5 : Below w1.heap.size w1 w5 := bthen S4 (stored_below k5)
      have HP5 : Hid (H4At w5 w2.heap.size h4z nilS nilS) := H4At.below HP4.out (stored_below k5)
      have HR5 : Hid (H4At w5 w4.heap.size h4z nilS nilS) := hP5
      have QM : Hid _ := same_true h4z none none none none 0 0 0 0 0 0 [] [] [] w5 (.inl rfl) (.inl rfl) rfl rfl (by decide) rfl (.inl rfl) (.inl rfl) (by intro x hx; cases hx)
      clear hP5 k5 HP4 S4
      go_wp2_with fail
      refine Calls.mono (num_any E w5) ?_
      rintro e w6 ⟨rfl, rfl⟩
      go_wp2_with (first | (refine wpList_load_h4 _ rfl w2.heap.size h4z nilS nilS rfl HP5.out rfl ?_) | (refine wpList_load_h4 _ rfl w4.heap.size h4z nilS nilS rfl HR5.out rfl ?_))
      refine Calls.mono QM.out ?_
      rintro e w6 ⟨rfl, hb6⟩
      have S6 : Below w1.heap.size w1 w6 := bthen S5 hb6
      clear hb6 QM HP5 HR5 S5
      have ez := HC1.out w6 S6
      go_wp2_with fail
      refine Calls.mono (HKEPT.out w6 S6) ?_
      rintro e wZ ⟨rfl, rfl⟩
      go_wp2
      go_ret
      exact ⟨rfl, BW.out w6 S6⟩
    · subst h0
      obtain ⟨la, K, lc, os, rfl, hok, _⟩ := hrd.ex
      have tk := hrd.tk
      obtain ⟨dA, hdA⟩ : ∃ dA, dA = cutA (some ⟨g, 0, none⟩) (I4.hdL o.bs) (I4.tlL o.bs - I4.hdL o.bs) := ⟨_, rfl⟩
      obtain ⟨dn, hdn⟩ : ∃ dn, dn = I4.tlL o.bs - I4.hdL o.bs := ⟨_, rfl⟩
      rw [← hdA, ← hdn] at hok ⊢
      have HOK : Hid (H4Ok w2 (I4.pH o.bs) la K lc os dA dn dn) := hok
      obtain ⟨P, hP⟩ : ∃ P, P = I4.pH o.bs := ⟨_, rfl⟩
      rw [← hP] at HOK ⊢
      have HPP : Hid (I4.pH o.bs = P) := hP.symm
      clear hdA hdn hok tk hrd hP
      go_wp2_with (first | (refine wpList_alloc_h4 rfl rfl ?_) | (refine wpList_store_h4 (.tmp 6) (.tmp 32) rfl rfl w2.heap.size h4z P nilS nilS (.slice la K lc) (.slice dA dn dn) rfl rfl rfl rfl (h4At_new _ _ _ _) rfl ?_))
      intro w3 hP3 k3
      have sb3 := stored_below k3
      have S3 : Below w1.heap.size w1 w3 := bthen hb2 sb3
      have HP3 : Hid (H4At w3 w2.heap.size P (.slice la K lc) (.slice dA dn dn)) := hP3
      have HOK3 : Hid (H4Ok w3 P la K lc os dA dn dn) := HOK.out.old sb3
      have e3 := HC1.out w3 S3
      have QR : Hid _ := rparse_any o.ba o.bn o.bc o.bs w3 HK.out.bl (HK.out.old (BW.out w3 S3)).bseg HK.out.b256 HK.out.bcap HK.out.bcm HK.out.bm
      clear hP3 k3 hb2 sb3 HOK
      go_wp2_with fail
      refine Calls.mono QR.out ?_
      rintro e w4 ⟨hb4, hr⟩
      rcases hr with ⟨hne, _⟩ | ⟨_, lb, K2, lc2, ps, va, vn, vc, rfl, hok4⟩
      case inl => exact absurd HE.out.symm hne
      rw [HPP.out] at hok4 ⊢
      have HP4 : Hid (H4At w4 w2.heap.size P (.slice la K lc) (.slice dA dn dn)) := H4At.below HP3.out hb4
      have HOK4 : Hid (H4Ok w4 P la K lc os dA dn dn) := HOK3.out.old hb4
      have S4 : Below w1.heap.size w1 w4 := bthen S3 hb4
      have hv : vals os = vals ps := HOK4.out.hos.symm.trans hok4.hos
      have hK2 : K2 = K := by
        have h1 := congrArg List.length hv
        simp only [vals, List.length_map] at h1
        rw [hok4.ol, HOK4.out.ol] at h1
        exact h1.symm
      have hvn : vn = dn := hok4.dl.symm.trans HOK4.out.dl
      subst hK2 hvn
      have HV : Hid (vals os = vals ps) := hv
      have HOR4 : Hid (H4Ok w4 P lb K2 lc2 ps va vn vc) := hok4
      clear hb4 QR HP3 S3 e3 hv hok4 HOK3
      go_wp2_with (first | (refine wpList_alloc_h4 rfl rfl ?_) | (refine wpList_store_h4 (.tmp 8) (.tmp 38) rfl rfl w4.heap.size h4z P nilS nilS (.slice lb K2 lc2) (.slice va vn vc) rfl rfl rfl rfl (h4At_new _ _ _ _) rfl ?_))
      intro w5 hP5 k5
      have sb5 := stored_below k5
      have S5 : Below w1.heap.size w1 w5 := bthen S4 sb5
      have HP5 : Hid (H4At w5 w2.heap.size P (.slice la K2 lc) (.slice dA vn vn)) := H4At.below HP4.out sb5
      have HR5 : Hid (H4At w5 w4.heap.size P (.slice lb K2 lc2) (.slice va vn vc)) := hP5
      have ho5 := HOK4.out.old sb5
      have hr5 := HOR4.out.old sb5
      have QM : Hid _ := same_true P la lb dA va K2 lc lc2 vn vn vc os ps P.data w5 ho5.opts hr5.opts ho5.ol HV.out ho5.on ho5.dl ho5.seg hr5.seg ho5.d256
      clear hP5 k5 HP4 S4 ho5 hr5 sb5 HOK4 HOR4
      go_wp2_with fail
      refine Calls.mono (num_any 0 w5) ?_
      rintro e w6 ⟨rfl, rfl⟩
      go_wp2_with (first | (refine wpList_load_h4 _ rfl w2.heap.size P (.slice la K2 lc) (.slice dA vn vn) rfl HP5.out rfl ?_) | (refine wpList_load_h4 _ rfl w4.heap.size P (.slice lb K2 lc2) (.slice va vn vc) rfl HR5.out rfl ?_))
      refine Calls.mono QM.out ?_
      rintro e w6 ⟨rfl, hb6⟩
      have S6 : Below w1.heap.size w1 w6 := bthen S5 hb6
      clear hb6 QM HP5 HR5 S5
      have ez := HC1.out w6 S6
      go_wp2_with fail
      refine Calls.mono (HKEPT.out w6 S6) ?_
      rintro e wZ ⟨rfl, rfl⟩
      go_wp2
      go_ret
      exact ⟨rfl, BW.out w6 S6⟩
  have f1 : (kd == 1) = false := by rw [beq_eq_false_iff_ne]; exact k1
  by_cases k4 : kd = 4
  · subst k4
    clear k1
    obtain ⟨cn, hcn⟩ : ∃ cn, cn = canon o.bs := ⟨_, rfl⟩
    have QC : Hid (∀ A, Below w1.heap.size w1 A → Calls Tryd.prog 22 #[.slice (some ⟨g, 0, none⟩) o.bn c] A fun e w' => e = .returned (.bool cn) ∧ Below A.heap.size A w') := fun A hA => by rw [hcn]; exact canonical_any (some ⟨g, 0, none⟩) c o.bn o.bs A HK.out.bl (HWID.out A (BW.out A hA)) (HSG.out A hA) HK.out.b256 hcb hcm
    have QR : Hid (∀ A, Below w1.heap.size w1 A → Calls Tryd.prog 37 #[.slice o.ba o.bn o.bc] A fun e w' => e = .returned (.bool cn) ∧ Below A.heap.size A w') := fun A hA => by rw [hcn]; exact rcanon_any o.ba o.bn o.bc o.bs A HK.out.bl (HK.out.old (BW.out A hA)).bseg HK.out.b256 HK.out.bcap HK.out.bcm HK.out.bm
    have eqc : (cn == cn) = true := by simp
    clear hcn
    go_upto_region 10 with fail
    go_wp2
    refine MixH.start (fun x => Below w1.heap.size w1 x) (by kernel_rfl) ?_
    obtain ⟨wA, hwA⟩ : ∃ wA, wA = w1.drew := ⟨_, rfl⟩
    have hS : Below w1.heap.size w1 wA := by rw [hwA]; exact (Below.refl _ _).drew
    rw [← hwA]
    clear hwA
    refine MixH.takes [true, false, true] 5 (by kernel_rfl) (by kernel_rfl) (by decide) (by kernel_rfl) hS (fun K hK => ?_)
    simp only [Mix.pick]
    repeat (go_big_quiet_step (fail))
    refine wpQuiet_nil (hK _ ?_)
    clear hK K
    refine MixH.take 4 3 _ (.slice o.ba o.bn o.bc) rfl (by kernel_rfl) (by kernel_rfl) (by kernel_rfl) (by kernel_rfl) (yields_bytes (.tmp 53) rfl ⟨O, 1, none⟩ _ rfl rfl HC1.out) hS (fun a' ha => ?_)
    simp only [Act.put, List.setIfInBounds_toArray, List.set_cons_succ, List.set_cons_zero] at ha
    subst ha
    refine MixH.one [false, true] 3 1 _ rfl rfl (by kernel_rfl) (by kernel_rfl) (fun K hK => ?_)
    simp only [Mix.pick]
    go_wp2_with fail
    refine Calls.mono (QC.out wA hS) ?_
    rintro e w2 ⟨rfl, hb2⟩
    replace hS : Below w1.heap.size w1 w2 := bthen hS hb2
    clear hb2
    go_wp2
    refine ⟨rfl, hK _ _ hS ?_⟩
    clear hK K
    refine MixH.one [false, false, false, false, true] 2 4 _ rfl rfl (by kernel_rfl) (by kernel_rfl) (fun K hK => ?_)
    simp only [Mix.pick]
    go_wp2_with fail
    refine Calls.mono (QR.out w2 hS) ?_
    rintro e w3 ⟨rfl, hb3⟩
    replace hS : Below w1.heap.size w1 w3 := bthen hS hb3
    clear hb3
    go_wp2
    refine ⟨rfl, hK _ _ hS ?_⟩
    clear hK K
    refine MixH.takes [false, false, false, false, false, true, true] 0 (by kernel_rfl) (by kernel_rfl) (by decide) (by kernel_rfl) hS (fun K hK => ?_)
    simp only [Mix.pick]
    repeat (go_big_quiet_step (fail))
    refine wpQuiet_nil (hK _ ?_)
    clear hK K
    refine MixH.done (by kernel_rfl) ?_
    have ez := HC1.out w3 hS
    go_wp2_with fail
    refine Calls.mono (HKEPT.out w3 hS) ?_
    rintro e wZ ⟨rfl, rfl⟩
    go_wp2
    go_ret
    exact ⟨rfl, BW.out w3 hS⟩
  have f4 : (kd == 4) = false := by rw [beq_eq_false_iff_ne]; exact k4
  by_cases k5 : kd = 5
  · subst k5
    clear k1 k4
    have QO : Hid _ := options_any (some ⟨g, 0, none⟩) c o.bn o.bs w1 HK.out.bl (HSG.out w1 (Below.refl _ _)) HK.out.b256 hcb hcm
    go_wp2_with fail
    refine Calls.mono QO.out ?_
    rintro e w2 ⟨v, er, rfl, hb2, hres⟩
    have S2 : Below w1.heap.size w1 w2 := hb2
    have e2 := HC1.out w2 S2
    have QR : Hid _ := ropts_any o.ba o.bn o.bc o.bs w2 HK.out.bl (HK.out.old (BW.out w2 S2)).bseg HK.out.b256 HK.out.bcap
    rcases hres with ⟨h40, ops, hsc, rfl, hown⟩ | ⟨hno, rfl, rfl⟩
    · obtain ⟨la, lc, rfl⟩ := owns_shape hown
      obtain ⟨si, hfl⟩ := I4.scan_in o.bs 0 ops hsc (Nat.zero_le _) HK.out.b256
      have hin : ∀ q ∈ ops, q.p + q.n ≤ o.bs.length := fun q hq => by have := si q hq; omega
      have HOP : Hid (OptsAt w2 la (ops.map (opV (some ⟨g, 0, none⟩) o.bs))) := opts_of_own hown rfl (HSG.out w2 S2) HK.out.b256 hin (by omega)
      have HSC : Hid (I4.scan o.bs 0 = some ops) := hsc
      have H40 : Hid (o.bs.length ≤ 40) := h40
      have hKs : ops.length ≤ 40 := by
        have key : ∀ l : List I4.OV, l.length ≤ (I4.flatO l).length := by
          intro l
          induction l with
          | nil => simp [I4.flatO]
          | cons q l ih => rw [I4.flatO_cons, List.length_cons]; omega
        have h2 := key (ops.map (I4.ov o.bs))
        rw [List.length_map] at h2
        omega
      clear hown si hfl hin hsc h40 hb2 QO
      go_wp2_with fail
      refine Calls.mono QR.out ?_
      rintro e w3 ⟨hb3, hro⟩
      have S3 : Below w1.heap.size w1 w3 := bthen S2 hb3
      rcases hro with ⟨_, ops2, lb, lc2, ps, hsc2, rfl, hpl, hpv, hpo, _, _⟩ | ⟨hno, _⟩
      case inr =>
        rcases hno with h1 | h1
        · have := H40.out; omega
        · rw [HSC.out] at h1; simp at h1
      have e22 : ops2 = ops := by rw [HSC.out] at hsc2; exact (Option.some.inj hsc2).symm
      subst e22
      have QM : Hid _ := sameOpts_true la lb ops2.length lc lc2 (ops2.map (opV (some ⟨g, 0, none⟩) o.bs)) ps w3 (HOP.out.old hb3) hpo (by simp) (by rw [vals_opV, hpv]) (by omega)
      clear hb3 QR hpl hpv hpo hsc2 HOP S2 e2
      go_wp2_with fail
      refine Calls.mono (num_any 0 w3) ?_
      rintro e w4 ⟨rfl, rfl⟩
      go_wp2_with fail
      refine Calls.mono QM.out ?_
      rintro e w4 ⟨rfl, hb4⟩
      have S4 : Below w1.heap.size w1 w4 := bthen S3 hb4
      clear hb4 QM S3
      have ez := HC1.out w4 S4
      go_wp2_with fail
      refine Calls.mono (HKEPT.out w4 S4) ?_
      rintro e wZ ⟨rfl, rfl⟩
      go_wp2
      go_ret
      exact ⟨rfl, BW.out w4 S4⟩
    · have HNO : Hid (40 < o.bs.length ∨ I4.scan o.bs 0 = none) := hno
      clear hno hb2 QO
      go_wp2_with fail
      refine Calls.mono QR.out ?_
      rintro e w3 ⟨hb3, hro⟩
      have S3 : Below w1.heap.size w1 w3 := bthen S2 hb3
      rcases hro with ⟨h40, ops2, lb, lc2, ps, hsc2, _⟩ | ⟨_, rfl⟩
      case inl =>
        rcases HNO.out with h1 | h1
        · omega
        · rw [h1] at hsc2; simp at hsc2
      have QM : Hid _ := sameOpts_true none none 0 0 0 [] [] w3 (.inl rfl) (.inl rfl) rfl rfl (by decide)
      clear hb3 QR S2 e2
      go_wp2_with fail
      refine Calls.mono (num_any 65 w3) ?_
      rintro e w4 ⟨rfl, rfl⟩
      go_wp2_with fail
      refine Calls.mono QM.out ?_
      rintro e w4 ⟨rfl, hb4⟩
      have S4 : Below w1.heap.size w1 w4 := bthen S3 hb4
      clear hb4 QM S3
      have ez := HC1.out w4 S4
      go_wp2_with fail
      refine Calls.mono (HKEPT.out w4 S4) ?_
      rintro e wZ ⟨rfl, rfl⟩
      go_wp2
      go_ret
      exact ⟨rfl, BW.out w4 S4⟩
  have f5 : (kd == 5) = false := by rw [beq_eq_false_iff_ne]; exact k5
  by_cases k7 : kd = 7
  · subst k7
    clear k1 k4 k5
    obtain ⟨Q, hQ⟩ : ∃ Q, Q = hopE o.bs := ⟨_, rfl⟩
    obtain ⟨LL, hLL⟩ : ∃ LL, LL = hopL o.bs := ⟨_, rfl⟩
    have QH : Hid _ := hopV_any (some ⟨g, 0, none⟩) c o.bn c (o.bn + 3) W.heap.size o.bs [91, 92, 93] w1 HK.out.bl (by rw [List.length_append, HK.out.bl]; rfl) (HWID.out w1 bel1) HG.out HK.out.b256 hcb hcm
    rw [← hQ, ← hLL] at QH
    have HLL : Hid (LL.length = o.bn ∧ ∀ x ∈ LL, x < 256) := by
      rw [hLL]
      unfold hopL
      split
      · exact ⟨by rw [I4.hop_len]; exact HK.out.bl, I4.hop_256 o.bs HK.out.b256⟩
      · exact ⟨HK.out.bl, HK.out.b256⟩
    have HQR : Hid (∀ A, Below w.heap.size w A → Calls Tryd.prog 43 #[.slice o.ba o.bn o.bc] A fun e w' => ∃ v, e = .returned (.tuple #[v, .int .i64 (Q : Nat)]) ∧ Below A.heap.size A w' ∧ w'.ownsRow A.heap.size 5 1 v o.bn ((toI LL).map (Value.int .u8))) := fun A hA => by
      rw [hQ, hLL]
      exact rhop_any o.ba o.bn o.bc o.bs A HK.out.bl (HK.out.old hA).bseg HK.out.b256 HK.out.bcap HK.out.bcm HK.out.bm
    have eqQ : ((Q : Int) == (Q : Int)) = true := by simp
    have HGB : Hid (W.heap.size ≤ g ∧ O < W.heap.size) := ⟨(HG.out.lt g rfl).1, HOW.out⟩
    clear hQ hLL
    go_wp2_with fail
    refine Calls.mono QH.out ?_
    rintro e w2 ⟨rfl, hc2, ho2⟩
    have hgq : ∀ q, (Value.slice (some (⟨g, 0, none⟩ : Addr)) (o.bn + 3) c).ownBlock = some q → q = g := fun q hq => by simpa [Value.ownBlock] using hq.symm
    have bel2 : Below w.heap.size w w2 := bel1.trans (hc2.below (fun q hq => by have h1 := hgq q hq; have h2 := HGB.out; have h3 := HWW.out; omega) bel1.size)
    have e2 : w2.cell? ⟨O, 1, none⟩ = some (.slice o.ba o.bn o.bc) := hc2.cell e1 (fun hq => by have h1 : O = g := hgq _ hq; have h2 := HGB.out; omega)
    have HG2 : Hid (w2.ownsRow W.heap.size 5 1 (.slice (some ⟨g, 0, none⟩) (o.bn + 3) c) (o.bn + 3) ((toI (LL ++ [91, 92, 93])).map (Value.int .u8))) := ho2
    clear QH hc2 ho2 hgq e1 e0
    go_wp2_with fail
    refine Calls.mono (HQR.out w2 bel2) ?_
    rintro e w3 ⟨v, rfl, hb3, ho3⟩
    obtain ⟨va, vc, rfl⟩ := owns_shape ho3
    have bel3 := bthen bel2 hb3
    have QK : Hid _ := kept_any g 0 va o.bn c vc LL w3 HLL.out.1 (owns_at (owns_below HG2.out hb3)).1 (owns_at ho3).1 HLL.out.2 (owns_at HG2.out).2.1 HK.out.bm
    clear hb3 ho3 bel2 e2
    go_wp2_with fail
    refine Calls.mono (num_any Q w3) ?_
    rintro e w4 ⟨rfl, rfl⟩
    go_wp2_with fail
    refine Calls.mono QK.out ?_
    rintro e w4 ⟨rfl, rfl⟩
    go_wp2
    go_ret
    exact ⟨rfl, bel3⟩
  have f7 : (kd == 7) = false := by rw [beq_eq_false_iff_ne]; exact k7
  clear k1 k4 k5 k7
  have S1 : Below w1.heap.size w1 w1 := Below.refl _ _
  have ez := HC1.out w1 S1
  go_wp2_with fail
  refine Calls.mono (HKEPT.out w1 S1) ?_
  rintro e wZ ⟨rfl, rfl⟩
  go_wp2
  go_ret
  exact ⟨rfl, BW.out w1 S1⟩
end Go.Proofs.YtdinhgfkpjaipaaDoor
namespace Go.Proofs.YtdinhgfkpjaipaaDoor
open Go.RowKit
open I4 (H4)

theorem yields_h4 {ops : Array Oper} {o : Oper} {a : Act} {S : World → Prop} (x : Operand) (ho : o.op = .load 28 x) (O : Nat) (h : H4) (ol dl : Value) (hx : a.eval x = .pointer (some ⟨O, 0, none⟩)) (hw : Region.wanted o (yielded ops a.tmps) = true) (hS : ∀ w, S w → H4At w O h ol dl) : YieldsIf Tryd.prog ops S o (.agg (h4C h ol dl)) a :=
  yields_box _ x ho ⟨O, 0, none⟩ _ hx hw (fun w hb => run_loadVar_row w O _ 28 (h4C h ol dl) _ _ (hS w hb) Tryd.underlying28 rfl Tryd.sizeH4)
set_option maxHeartbeats 12800000 in
set_option maxRecDepth 100000 in
theorem values_any (o : OpR) (w : World) (hw : Wid w) (ok : o.Ok w) :
    Calls Tryd.prog 65 #[.agg o.cells.toArray] w fun e w' => e = .returned (.bool true) ∧ Below w.heap.size w w' := by
  obtain ⟨W, hW⟩ : ∃ W, W = w.alloc (.cells o.cells.toArray 103) := ⟨_, rfl⟩
  obtain ⟨O, hO⟩ : ∃ O, O = w.heap.size := ⟨_, rfl⟩
  have bel : Below w.heap.size w W := by rw [hW]; exact (Below.refl _ _).alloc (Nat.le_refl _) _
  have HB : Hid (OpAt W O o) := by rw [hW, hO]; exact opAt_new _ _
  obtain ⟨C, hC⟩ : ∃ C, C = o.cells.toArray := ⟨_, rfl⟩
  have HW : Hid (w.alloc (.cells C 103) = W) := by rw [hC]; exact hW.symm
  have HO : Hid (w.heap.size = O) := hO.symm
  rw [← hC]
  have HK : Hid (o.Ok w) := ok
  have HWID : Hid (∀ A, Below w.heap.size w A → Wid A) := fun A hA => hw.old hA
  clear hW hC hO ok hw
  go_enter Tryd.func65, Tryd.ntmps65
  go_upto_region 1 with fail
  rw [HW.out, HO.out]
  clear HW
  go_upto_region 2 with (first | (refine wpList_load_h4m _ rfl O o rfl HB.out rfl ?_) | (refine wpList_alloc_h4 rfl rfl ?_) | (refine wpList_store_h4 (.tmp 3) (.tmp 20) rfl rfl W.heap.size h4z o.h nilS nilS (.slice o.la o.ln o.lc) (.slice o.da o.n o.c) rfl rfl rfl rfl (h4At_new _ _ _ _) rfl ?_))
  intro w2 hP2 k2
  have sb2 := stored_below k2
  have bel2 := bthen bel sb2
  obtain ⟨H, hH⟩ : ∃ H, H = W.heap.size := ⟨_, rfl⟩
  rw [← hH] at hP2 ⊢
  have HH2 : Hid (H4At w2 H o.h (.slice o.la o.ln o.lc) (.slice o.da o.n o.c)) := hP2
  have HB2 : Hid (OpAt w2 O o) := OpAt.below HB.out sb2
  have HHG : Hid (w.heap.size ≤ H ∧ O < H) := ⟨by rw [hH]; exact bel.size, by rw [hH]; exact HB.out.lt⟩
  have d42 := HH2.out.c42
  have QW : Hid _ := wide_any o.da o.n o.c o.h.data w2 HK.out.hok.dl (HK.out.old bel2).hok.seg HK.out.hsm.n
  clear hP2 k2 sb2 HB bel hH
  go_wp2_with fail
  refine Calls.mono QW.out ?_
  rintro e w3 ⟨g, c, rfl, hog, hb3⟩
  have bel3 := bthen bel2 hb3
  have HH3 : Hid (H4At w3 H o.h (.slice o.la o.ln o.lc) (.slice o.da o.n o.c)) := H4At.below HH2.out hb3
  have HB3 : Hid (OpAt w3 O o) := OpAt.below HB2.out hb3
  have HG3 : Hid (w3.ownsRow w2.heap.size 5 1 (.slice (some ⟨g, 0, none⟩) (o.n + 3) c) (o.n + 3) ((toI (o.h.data ++ [91, 92, 93])).map (Value.int .u8))) := hog
  have d41 := HH3.out.c41
  have QL : Hid _ := laid_any o.la o.ln o.lc o.os w3 HK.out.hok.ol (HK.out.old bel3).hok.opts HK.out.hsm.ln HK.out.hsm.d
  have hgc := (owns_at hog).2
  have HH2L : Hid (H < w2.heap.size) := HH2.out.lt
  have HSZ23 : Hid (w2.heap.size ≤ w3.heap.size) := hb3.size
  clear QW hog hb3 HH2 HB2 bel2 d42
  go_wp2_with fail
  refine Calls.mono QL.out ?_
  rintro e w4 ⟨ma, mc, wa, wc, ps, rfl, hb4, hpl, hmc, hla, hnew⟩
  have bel4 := bthen bel3 hb4
  have HH4 : Hid (H4At w4 H o.h (.slice o.la o.ln o.lc) (.slice o.da o.n o.c)) := H4At.below HH3.out hb4
  have HB4 : Hid (OpAt w4 O o) := OpAt.below HB3.out hb4
  have HG4 : Hid (w4.ownsRow w2.heap.size 5 1 (.slice (some ⟨g, 0, none⟩) (o.n + 3) c) (o.n + 3) ((toI (o.h.data ++ [91, 92, 93])).map (Value.int .u8))) := owns_below HG3.out hb4
  have HL4 : Hid (LaidAt w4 o.os ma wa ps) := hla
  have HNEW : Hid (LaidNew w3.heap.size ma wa ps) := hnew
  have HPL : Hid (ps.length = o.ln) := hpl
  have HMC : Hid (o.ln + 1 ≤ mc) := hmc
  have d44 := HB4.out.c44
  have z42 := HH4.out.fz 42
  have x42 := HH4.out.c42
  have s0 : (0 : Int) ≤ (o.n : Int) := by omega
  have s1 : (o.n : Int) ≤ (c : Int) := by have := hgc.1; omega
  have s2 : ((o.n : Int)).toNat = o.n := by omega
  have st := HH4.out.set42 (.slice (some ⟨g, 0, none⟩) o.n c)
  obtain ⟨w5, hw5⟩ : ∃ w5, w5 = w4.setCell ⟨H, 42, none⟩ (.slice (some ⟨g, 0, none⟩) o.n c) := ⟨_, rfl⟩
  rw [← hw5] at st
  have E5 : Hid (w4.setCell ⟨H, 42, none⟩ (.slice (some ⟨g, 0, none⟩) o.n c) = w5) := hw5.symm
  have HH5 : Hid (H4At w5 H o.h (.slice o.la o.ln o.lc) (.slice (some ⟨g, 0, none⟩) o.n c)) := st.1
  have HB5 : Hid (OpAt w5 O o) := HB4.out.ch st.2 (fun e => by have e' : O = H := e; have := HHG.out; omega)
  have HG5 : Hid (w5.ownsRow w2.heap.size 5 1 (.slice (some ⟨g, 0, none⟩) (o.n + 3) c) (o.n + 3) ((toI (o.h.data ++ [91, 92, 93])).map (Value.int .u8))) := st.2.owns HG4.out (fun q hq e => by have e' : q = H := e; have h1 := (HG4.out.lt q hq).1; have h2 := HH2L.out; omega)
  have HW23 : Hid (w2.heap.size ≤ w3.heap.size) := HSZ23.out
  have HL5 : Hid (LaidAt w5 o.os ma wa ps) := HL4.out.ch st.2 HNEW.out (fun x hx e => by have e' : x = H := e; have h2 := HH2L.out; have h3 := HW23.out; omega)
  have bel5 : Below w.heap.size w w5 := bel4.trans (st.2.below (fun q e => by have e' : q = H := e; have := HHG.out; omega) bel4.size)
  clear hw5 st hb4 hpl hmc hla hnew QL HH3 HB3 HG3 HH4 HB4 HG4 HL4 bel3 bel4 d41
  go_upto_region 5 with fail
  rw [E5.out]
  clear E5 z42 x42 d44
  have d43 := HB5.out.c43
  have z41 := HH5.out.fz 41
  have x41 := HH5.out.c41
  have hln := HK.out.hsm.ln
  have t0 : (0 : Int) ≤ (o.ln : Int) := by omega
  have t1 : (o.ln : Int) ≤ (mc : Int) := by have := HMC.out; omega
  have t2 : ((o.ln : Int)).toNat = o.ln := by omega
  have st := HH5.out.set41 (.slice ma o.ln mc)
  obtain ⟨w6, hw6⟩ : ∃ w6, w6 = w5.setCell ⟨H, 41, none⟩ (.slice ma o.ln mc) := ⟨_, rfl⟩
  rw [← hw6] at st
  have E6 : Hid (w5.setCell ⟨H, 41, none⟩ (.slice ma o.ln mc) = w6) := hw6.symm
  have HH6 : Hid (H4At w6 H o.h (.slice ma o.ln mc) (.slice (some ⟨g, 0, none⟩) o.n c)) := st.1
  have HB6 : Hid (OpAt w6 O o) := HB5.out.ch st.2 (fun e => by have e' : O = H := e; have := HHG.out; omega)
  have HG6 : Hid (w6.ownsRow w2.heap.size 5 1 (.slice (some ⟨g, 0, none⟩) (o.n + 3) c) (o.n + 3) ((toI (o.h.data ++ [91, 92, 93])).map (Value.int .u8))) := st.2.owns HG5.out (fun q hq e => by have e' : q = H := e; have h1 := (HG5.out.lt q hq).1; have h2 := HH2L.out; omega)
  have HL6 : Hid (LaidAt w6 o.os ma wa ps) := HL5.out.ch st.2 HNEW.out (fun x hx e => by have e' : x = H := e; have h2 := HH2L.out; have h3 := HW23.out; omega)
  have bel6 : Below w.heap.size w w6 := bel5.trans (st.2.below (fun q e => by have e' : q = H := e; have := HHG.out; omega) bel5.size)
  have d45 := HB6.out.c45
  have QL : Hid _ := laid_any o.ma o.mn o.mc o.ms w6 HK.out.ml (HK.out.old bel6).mo HK.out.mm HK.out.md
  clear hw6 st HH5 HB5 HG5 HL5 bel5
  go_upto_region 6 with fail
  rw [E6.out]
  clear E6 z41 x41 d43
  go_wp2_with fail
  refine Calls.mono QL.out ?_
  rintro e w7 ⟨ma2, mc2, wa2, wc2, ps2, rfl, hb7, hpl2, hmc2, hla2, _⟩
  have bel7 := bthen bel6 hb7
  have HHA : Hid (∀ A, Below w7.heap.size w7 A → H4At A H o.h (.slice ma o.ln mc) (.slice (some ⟨g, 0, none⟩) o.n c)) := fun A hA => H4At.below (H4At.below HH6.out hb7) hA
  have HBA : Hid (∀ A, Below w7.heap.size w7 A → OpAt A O o) := fun A hA => OpAt.below (OpAt.below HB6.out hb7) hA
  have HGA : Hid (∀ A, Below w7.heap.size w7 A → A.ownsRow w2.heap.size 5 1 (.slice (some ⟨g, 0, none⟩) (o.n + 3) c) (o.n + 3) ((toI (o.h.data ++ [91, 92, 93])).map (Value.int .u8))) := fun A hA => owns_below (owns_below HG6.out hb7) hA
  have HLA : Hid (∀ A, Below w7.heap.size w7 A → LaidAt A o.os ma wa ps) := fun A hA => (HL6.out.old hb7).old hA
  have HLB : Hid (∀ A, Below w7.heap.size w7 A → LaidAt A o.ms ma2 wa2 ps2) := fun A hA => hla2.old hA
  have BW : Hid (∀ A, Below w7.heap.size w7 A → Below w.heap.size w A) := fun A hA => bthen bel7 hA
  have HPL2 : Hid (ps2.length = o.mn) := hpl2
  have HMC2 : Hid (o.mn + 1 ≤ mc2) := hmc2
  have HHOK : Hid (∀ A, Below w7.heap.size w7 A → H4Ok A o.h ma o.ln mc ps (some ⟨g, 0, none⟩) o.n c) := fun A hA => by
    have hs1 := (owns_at (HGA.out A hA)).1.part0 o.n (by rw [toI_len, List.length_append, HK.out.hok.dl]; simp)
    rw [toI_take, List.take_append_of_le_length (by rw [HK.out.hok.dl]; exact Nat.le_refl _), List.take_of_length_le (by rw [HK.out.hok.dl]; exact Nat.le_refl _)] at hs1
    have hg1 := (owns_at (HGA.out A hA)).2
    exact ⟨HK.out.hok.sx, HK.out.hok.dx, HPL.out, (HLA.out A hA).opts.front, by rw [(HLA.out A hA).vs]; exact HK.out.hok.hos, HK.out.hok.on, HK.out.hok.dl, hs1, HK.out.hok.d256, by omega, hg1.2, HK.out.hok.dn⟩
  have e0 := (HBA.out w7 (Below.refl _ _)).c0
  have S7 : Below w7.heap.size w7 w7 := Below.refl _ _
  obtain ⟨kd, hkd⟩ : ∃ kd, kd = o.kind := ⟨_, rfl⟩
  rw [← hkd] at e0
  have hmn := HK.out.mm
  clear QL hb7 HH6 HB6 HG6 HL6 bel6 hpl2 hmc2 hla2 d45 hkd
  by_cases k2 : kd = 2
  · subst k2
    have QC : Hid _ := check_any' o.h ma o.ln mc ps (some ⟨g, 0, none⟩) o.n c w7 (HHOK.out w7 S7)
    obtain ⟨E, hE⟩ : ∃ E, E = I4.chk o.h := ⟨_, rfl⟩
    rw [← hE] at QC
    have QR : Hid (∀ A, Below w7.heap.size w7 A → Calls Tryd.prog 96 #[.agg (h4C o.h (.slice o.la o.ln o.lc) (.slice o.da o.n o.c))] A fun e w' => e = .returned (.int .i64 (E : Nat)) ∧ Below A.heap.size A w') := fun A hA => by rw [hE]; exact rcheck6_any o.h o.la o.ln o.lc o.os o.da o.n o.c A (HK.out.old (BW.out A hA)).hok HK.out.hsm
    have eqE : ((E : Int) == (E : Int)) = true := by simp
    clear hE
    go_wp2_with (first | (refine wpList_load_h4 _ rfl H o.h (.slice ma o.ln mc) (.slice (some ⟨g, 0, none⟩) o.n c) rfl (HHA.out w7 S7) rfl ?_))
    refine Calls.mono QC.out ?_
    rintro e w8 ⟨rfl, hb8⟩
    have S8 : Below w7.heap.size w7 w8 := hb8
    clear QC hb8
    go_wp2
    refine MixH.start (fun x => Below w7.heap.size w7 x) (by kernel_rfl) ?_
    obtain ⟨wA, hwA⟩ : ∃ wA, wA = w8.drew := ⟨_, rfl⟩
    have hS : Below w7.heap.size w7 wA := by rw [hwA]; exact S8.drew
    rw [← hwA]
    clear hwA S8
    refine MixH.takes [true, false, true] 5 (by kernel_rfl) (by kernel_rfl) (by decide) (by kernel_rfl) hS (fun K hK => ?_)
    simp only [Mix.pick]
    repeat (go_big_quiet_step (fail))
    refine wpQuiet_nil (hK _ ?_)
    clear hK K
    refine MixH.take 4 3 _ (.agg (h4C o.h (.slice o.la o.ln o.lc) (.slice o.da o.n o.c))) rfl (by kernel_rfl) (by kernel_rfl) (by kernel_rfl) (by kernel_rfl) (yields_h4m (.tmp 58) rfl O o rfl rfl HBA.out) hS (fun a' ha => ?_)
    simp only [Act.put, List.setIfInBounds_toArray, List.set_cons_succ, List.set_cons_zero] at ha
    subst ha
    refine MixH.one [false, true] 3 1 _ rfl rfl (by kernel_rfl) (by kernel_rfl) (fun K hK => ?_)
    simp only [Mix.pick]
    go_wp2_with fail
    refine Calls.mono (num_any E wA) ?_
    rintro e wN ⟨rfl, rfl⟩
    go_wp2
    refine ⟨rfl, hK _ _ hS ?_⟩
    clear hK K
    refine MixH.one [false, false, false, false, true] 2 4 _ rfl rfl (by kernel_rfl) (by kernel_rfl) (fun K hK => ?_)
    simp only [Mix.pick]
    go_wp2_with fail
    refine Calls.mono (QR.out wA hS) ?_
    rintro e w9 ⟨rfl, hb9⟩
    replace hS : Below w7.heap.size w7 w9 := bthen hS hb9
    clear hb9
    go_wp2
    refine ⟨rfl, hK _ _ hS ?_⟩
    clear hK K
    refine MixH.takes [false, false, false, false, false, true, true] 0 (by kernel_rfl) (by kernel_rfl) (by decide) (by kernel_rfl) hS (fun K hK => ?_)
    simp only [Mix.pick]
    repeat (go_big_quiet_step (fail))
    refine wpQuiet_nil (hK _ ?_)
    clear hK K
    refine MixH.done (by kernel_rfl) ?_
    have QM : Hid _ := same_true o.h ma o.la (some ⟨g, 0, none⟩) o.da o.ln mc o.lc o.n c o.c ps o.os o.h.data w9 (HHOK.out w9 hS).opts (HK.out.old (BW.out w9 hS)).hok.opts HPL.out (HLA.out w9 hS).vs HK.out.hok.on HK.out.hok.dl (HHOK.out w9 hS).seg (HK.out.old (BW.out w9 hS)).hok.seg HK.out.hok.d256
    go_upto_region 20 with fail
    go_wp2_with (first | (refine wpList_load_h4 _ rfl H o.h (.slice ma o.ln mc) (.slice (some ⟨g, 0, none⟩) o.n c) rfl (HHA.out w9 hS) rfl ?_) | (refine wpList_load_h4m _ rfl O o rfl (HBA.out w9 hS) rfl ?_))
    refine Calls.mono QM.out ?_
    rintro e wX ⟨rfl, hbX⟩
    have SX : Below w7.heap.size w7 wX := bthen hS hbX
    have x44 := (HBA.out wX SX).c44
    have QK : Hid _ := kept_any g 0 o.da o.n c o.c o.h.data wX HK.out.hok.dl (owns_at (HGA.out wX SX)).1 (HK.out.old (BW.out wX SX)).hok.seg HK.out.hok.d256 (owns_at (HGA.out wX SX)).2.1 HK.out.hsm.n
    clear QM hbX
    go_wp2_with fail
    refine Calls.mono QK.out ?_
    rintro e wY ⟨rfl, rfl⟩
    have x43 := (HBA.out wX SX).c43
    have QL : Hid _ := same_laid ma wa o.la o.ln mc wc o.lc o.os ps wX HK.out.hok.ol HPL.out HMC.out (HLA.out wX SX) (HK.out.old (BW.out wX SX)).hok.opts HK.out.hsm.ln HK.out.hsm.d
    clear QK x44
    go_wp2_with fail
    refine Calls.mono QL.out ?_
    rintro e wY ⟨rfl, hbY⟩
    have SY : Below w7.heap.size w7 wY := bthen SX hbY
    have x45 := (HBA.out wY SY).c45
    have QL2 : Hid _ := same_laid ma2 wa2 o.ma o.mn mc2 wc2 o.mc o.ms ps2 wY HK.out.ml HPL2.out HMC2.out (HLB.out wY SY) (HK.out.old (BW.out wY SY)).mo HK.out.mm HK.out.md
    clear QL hbY SX x43
    go_wp2_with fail
    refine Calls.mono QL2.out ?_
    rintro e wZ ⟨rfl, hbZ⟩
    have SZ : Below w7.heap.size w7 wZ := bthen SY hbZ
    go_wp2
    go_ret
    exact ⟨rfl, BW.out wZ SZ⟩
  have f2 : (kd == 2) = false := by rw [beq_eq_false_iff_ne]; exact k2
  by_cases k3 : kd = 3
  · subst k3
    clear k2
    have QC : Hid _ := serialise_any o.h ma o.ln mc ps (some ⟨g, 0, none⟩) o.n c w7 (HWID.out w7 bel7) (HHOK.out w7 S7)
    obtain ⟨E, hE⟩ : ∃ E, E = I4.chk o.h := ⟨_, rfl⟩
    rw [← hE] at QC
    have HE : Hid (E = I4.chk o.h) := hE
    have QR : Hid (∀ A, Below w7.heap.size w7 A → Calls Tryd.prog 72 #[.agg (h4C o.h (.slice o.la o.ln o.lc) (.slice o.da o.n o.c))] A fun e w' => ∃ v, e = .returned (.tuple #[v, .int .i64 (E : Nat)]) ∧ Below A.heap.size A w' ∧ RSer A o.h v w') := fun A hA => by rw [hE]; exact rser_any o.h o.la o.ln o.lc o.os o.da o.n o.c A (HK.out.old (BW.out A hA)).hok HK.out.hsm
    have eqE : ((E : Int) == (E : Int)) = true := by simp
    clear hE
    go_wp2_with (first | (refine wpList_load_h4 _ rfl H o.h (.slice ma o.ln mc) (.slice (some ⟨g, 0, none⟩) o.n c) rfl (HHA.out w7 S7) rfl ?_))
    refine Calls.mono QC.out ?_
    rintro e w8 ⟨v8, rfl, hb8, hs8⟩
    have S8 : Below w7.heap.size w7 w8 := hb8
    obtain ⟨va, vn, vc, hv8, hx8⟩ : ∃ va vn vc, v8 = .slice va vn vc ∧ ((I4.chk o.h = 0 ∧ vn = (I4.ser o.h).length ∧ w8.ownsRow w7.heap.size 5 1 (.slice va vn vc) vn ((toI (I4.ser o.h)).map (Value.int .u8))) ∨ (I4.chk o.h ≠ 0 ∧ vn = 0)) := by
      rcases hs8 with ⟨h0, gg, rfl, hog⟩ | ⟨hne, rfl⟩
      · exact ⟨_, _, _, rfl, .inl ⟨h0, rfl, hog⟩⟩
      · exact ⟨_, _, _, rfl, .inr ⟨hne, rfl⟩⟩
    subst hv8
    have HX8 : Hid _ := hx8
    clear QC hb8 hs8 hx8
    go_wp2_with (first | (refine wpList_load_h4m _ rfl O o rfl (HBA.out w8 S8) rfl ?_))
    refine Calls.mono (QR.out w8 S8) ?_
    rintro e w9 ⟨v9, rfl, hb9, hs9⟩
    have S9 : Below w7.heap.size w7 w9 := bthen S8 hb9
    obtain ⟨ua, un, uc, hv9, hx9⟩ : ∃ ua un uc, v9 = .slice ua un uc ∧ ((I4.chk o.h = 0 ∧ un = (I4.ser o.h).length ∧ w9.ownsRow w8.heap.size 5 1 (.slice ua un uc) un ((toI (I4.ser o.h)).map (Value.int .u8))) ∨ (I4.chk o.h ≠ 0 ∧ un = 0)) := by
      rcases hs9 with ⟨h0, ga, gc, rfl, hog⟩ | ⟨hne, rfl⟩
      · exact ⟨_, _, _, rfl, .inl ⟨h0, rfl, hog⟩⟩
      · exact ⟨_, _, _, rfl, .inr ⟨hne, rfl⟩⟩
    subst hv9
    have QA : Hid (Calls Tryd.prog 24 #[.slice va vn vc, .slice ua un uc] w9 fun e w' => e = .returned (.bool true) ∧ w9 = w') := by
      rcases hx9 with ⟨h0, rfl, ho9⟩ | ⟨hne, rfl⟩
      · rcases HX8.out with ⟨_, rfl, ho8⟩ | ⟨hne, _⟩
        · have h256 := ser_256 o.h ((I4.chk_zero o.h).1 h0) HK.out.hok.sx HK.out.hok.dx (by rw [HK.out.hok.hos]; exact opts_256 HK.out.hok.opts) HK.out.hok.d256
          have := alike_any va ua _ _ vc uc (I4.ser o.h) (I4.ser o.h) w9 rfl rfl (owns_at (owns_below ho8 hb9)).1 (owns_at ho9).1 h256 h256
          rw [decide_eq_true rfl] at this
          exact this
        · exact absurd h0 hne
      · rcases HX8.out with ⟨h0, _⟩ | ⟨_, rfl⟩
        · exact absurd h0 hne
        · have := alike_any va ua 0 0 vc uc [] [] w9 rfl rfl (.inl rfl) (.inl rfl) (by intro x hx; cases hx) (by intro x hx; cases hx)
          rw [decide_eq_true rfl] at this
          exact this
    clear hb9 hs9 hx9 S8 HX8
    go_wp2_with fail
    refine Calls.mono (num_any E w9) ?_
    rintro e wN ⟨rfl, rfl⟩
    go_wp2_with fail
    refine Calls.mono QA.out ?_
    rintro e wN ⟨rfl, rfl⟩
    clear QA
    have QM : Hid _ := same_true o.h ma o.la (some ⟨g, 0, none⟩) o.da o.ln mc o.lc o.n c o.c ps o.os o.h.data w9 (HHOK.out w9 S9).opts (HK.out.old (BW.out w9 S9)).hok.opts HPL.out (HLA.out w9 S9).vs HK.out.hok.on HK.out.hok.dl (HHOK.out w9 S9).seg (HK.out.old (BW.out w9 S9)).hok.seg HK.out.hok.d256
    go_upto_region 20 with fail
    go_wp2_with (first | (refine wpList_load_h4 _ rfl H o.h (.slice ma o.ln mc) (.slice (some ⟨g, 0, none⟩) o.n c) rfl (HHA.out w9 S9) rfl ?_) | (refine wpList_load_h4m _ rfl O o rfl (HBA.out w9 S9) rfl ?_))
    refine Calls.mono QM.out ?_
    rintro e wX ⟨rfl, hbX⟩
    have SX : Below w7.heap.size w7 wX := bthen S9 hbX
    have x44 := (HBA.out wX SX).c44
    have QK : Hid _ := kept_any g 0 o.da o.n c o.c o.h.data wX HK.out.hok.dl (owns_at (HGA.out wX SX)).1 (HK.out.old (BW.out wX SX)).hok.seg HK.out.hok.d256 (owns_at (HGA.out wX SX)).2.1 HK.out.hsm.n
    clear QM hbX
    go_wp2_with fail
    refine Calls.mono QK.out ?_
    rintro e wY ⟨rfl, rfl⟩
    have x43 := (HBA.out wX SX).c43
    have QL : Hid _ := same_laid ma wa o.la o.ln mc wc o.lc o.os ps wX HK.out.hok.ol HPL.out HMC.out (HLA.out wX SX) (HK.out.old (BW.out wX SX)).hok.opts HK.out.hsm.ln HK.out.hsm.d
    clear QK x44
    go_wp2_with fail
    refine Calls.mono QL.out ?_
    rintro e wY ⟨rfl, hbY⟩
    have SY : Below w7.heap.size w7 wY := bthen SX hbY
    have x45 := (HBA.out wY SY).c45
    have QL2 : Hid _ := same_laid ma2 wa2 o.ma o.mn mc2 wc2 o.mc o.ms ps2 wY HK.out.ml HPL2.out HMC2.out (HLB.out wY SY) (HK.out.old (BW.out wY SY)).mo HK.out.mm HK.out.md
    clear QL hbY SX x43
    go_wp2_with fail
    refine Calls.mono QL2.out ?_
    rintro e wZ ⟨rfl, hbZ⟩
    have SZ : Below w7.heap.size w7 wZ := bthen SY hbZ
    go_wp2
    go_ret
    exact ⟨rfl, BW.out wZ SZ⟩
  have f3 : (kd == 3) = false := by rw [beq_eq_false_iff_ne]; exact k3
  by_cases k6 : kd = 6
  · subst k6
    clear k2 k3
    have hv2 := (HLB.out w7 S7).vs
    have QC : Hid _ := putOptions_any ma2 o.mn mc2 ps2 w7 HPL2.out (HLB.out w7 S7).opts.front (by omega)
    have HV2 : Hid (vals ps2 = vals o.ms) := hv2
    have e45 := (HBA.out w7 S7).c45
    have u0 : (0 : Int) ≤ (o.mn : Int) := by omega
    have u1 : (o.mn : Int) ≤ (mc2 : Int) := by have := HMC2.out; omega
    have u2 : ((o.mn : Int)).toNat = o.mn := by omega
    clear hv2
    go_wp2_with fail
    refine Calls.mono QC.out ?_
    rintro e w8 ⟨v8, er, rfl, hb8, hs8⟩
    have S8 : Below w7.heap.size w7 w8 := hb8
    unfold PutRes at hs8
    rw [HV2.out] at hs8
    have x45 := (HBA.out w8 S8).c45
    have QR : Hid _ := rput_any o.ma o.mn o.mc o.ms w8 HK.out.ml (HK.out.old (BW.out w8 S8)).mo HK.out.mm HK.out.md
    rcases hs8 with ⟨hp, rfl, g8, rfl, ho8⟩ | ⟨hp, rfl, rfl⟩
    · have HP8 : Hid (I4.putOk (vals o.ms) = true) := hp
      obtain ⟨L, hL⟩ : ∃ L, L = (I4.putO (vals o.ms)).length := ⟨_, rfl⟩
      rw [← hL] at ho8 ⊢
      have HL8 : Hid (L = (I4.putO (vals o.ms)).length) := hL
      have HO8 : Hid (w8.ownsRow w7.heap.size 5 1 (.slice (some ⟨g8, 0, none⟩) L L) L ((toI (I4.putO (vals o.ms))).map (Value.int .u8))) := ho8
      clear QC hb8 hp ho8 hL
      go_wp2_with fail
      refine Calls.mono QR.out ?_
      rintro e w9 ⟨hb9, hr9⟩
      have S9 : Below w7.heap.size w7 w9 := bthen S8 hb9
      rcases hr9 with ⟨_, v9, rfl, ho9⟩ | ⟨hp9, _⟩
      case inr => exact absurd HP8.out (by rw [hp9]; simp)
      obtain ⟨ua, uc, rfl⟩ := owns_shape ho9
      rw [← HL8.out] at ho9 ⊢
      have h256 := put_256 (vals o.ms) (opts_256 HK.out.mo)
      have QA : Hid _ := alike_any (some ⟨g8, 0, none⟩) ua L L L uc (I4.putO (vals o.ms)) (I4.putO (vals o.ms)) w9 HL8.out.symm HL8.out.symm (owns_at (owns_below HO8.out hb9)).1 (owns_at ho9).1 h256 h256
      rw [decide_eq_true rfl] at QA
      clear hb9 ho9 h256 S8 HO8
      go_wp2_with fail
      refine Calls.mono (num_any 0 w9) ?_
      rintro e wN ⟨rfl, rfl⟩
      go_wp2_with fail
      refine Calls.mono QA.out ?_
      rintro e wN ⟨rfl, rfl⟩
      clear QA
      have QM : Hid _ := same_true o.h ma o.la (some ⟨g, 0, none⟩) o.da o.ln mc o.lc o.n c o.c ps o.os o.h.data w9 (HHOK.out w9 S9).opts (HK.out.old (BW.out w9 S9)).hok.opts HPL.out (HLA.out w9 S9).vs HK.out.hok.on HK.out.hok.dl (HHOK.out w9 S9).seg (HK.out.old (BW.out w9 S9)).hok.seg HK.out.hok.d256
      go_upto_region 20 with fail
      go_wp2_with (first | (refine wpList_load_h4 _ rfl H o.h (.slice ma o.ln mc) (.slice (some ⟨g, 0, none⟩) o.n c) rfl (HHA.out w9 S9) rfl ?_) | (refine wpList_load_h4m _ rfl O o rfl (HBA.out w9 S9) rfl ?_))
      refine Calls.mono QM.out ?_
      rintro e wX ⟨rfl, hbX⟩
      have SX : Below w7.heap.size w7 wX := bthen S9 hbX
      have x44 := (HBA.out wX SX).c44
      have QK : Hid _ := kept_any g 0 o.da o.n c o.c o.h.data wX HK.out.hok.dl (owns_at (HGA.out wX SX)).1 (HK.out.old (BW.out wX SX)).hok.seg HK.out.hok.d256 (owns_at (HGA.out wX SX)).2.1 HK.out.hsm.n
      clear QM hbX
      go_wp2_with fail
      refine Calls.mono QK.out ?_
      rintro e wY ⟨rfl, rfl⟩
      have x43 := (HBA.out wX SX).c43
      have QL : Hid _ := same_laid ma wa o.la o.ln mc wc o.lc o.os ps wX HK.out.hok.ol HPL.out HMC.out (HLA.out wX SX) (HK.out.old (BW.out wX SX)).hok.opts HK.out.hsm.ln HK.out.hsm.d
      clear QK x44
      go_wp2_with fail
      refine Calls.mono QL.out ?_
      rintro e wY ⟨rfl, hbY⟩
      have SY : Below w7.heap.size w7 wY := bthen SX hbY
      have x45 := (HBA.out wY SY).c45
      have QL2 : Hid _ := same_laid ma2 wa2 o.ma o.mn mc2 wc2 o.mc o.ms ps2 wY HK.out.ml HPL2.out HMC2.out (HLB.out wY SY) (HK.out.old (BW.out wY SY)).mo HK.out.mm HK.out.md
      clear QL hbY SX x43
      go_wp2_with fail
      refine Calls.mono QL2.out ?_
      rintro e wZ ⟨rfl, hbZ⟩
      have SZ : Below w7.heap.size w7 wZ := bthen SY hbZ
      go_wp2
      go_ret
      exact ⟨rfl, BW.out wZ SZ⟩
    · have HP8 : Hid (I4.putOk (vals o.ms) = false) := hp
      clear QC hb8 hp
      go_wp2_with fail
      refine Calls.mono QR.out ?_
      rintro e w9 ⟨hb9, hr9⟩
      have S9 : Below w7.heap.size w7 w9 := bthen S8 hb9
      rcases hr9 with ⟨hp9, _⟩ | ⟨_, rfl⟩
      case inl => exact absurd hp9 (by rw [HP8.out]; simp)
      have QA : Hid _ := alike_any none none 0 0 0 0 [] [] w9 rfl rfl (.inl rfl) (.inl rfl) (by intro x hx; cases hx) (by intro x hx; cases hx)
      rw [decide_eq_true rfl] at QA
      clear hb9 S8
      go_wp2_with fail
      refine Calls.mono (num_any 65 w9) ?_
      rintro e wN ⟨rfl, rfl⟩
      go_wp2_with fail
      refine Calls.mono QA.out ?_
      rintro e wN ⟨rfl, rfl⟩
      clear QA
      have QM : Hid _ := same_true o.h ma o.la (some ⟨g, 0, none⟩) o.da o.ln mc o.lc o.n c o.c ps o.os o.h.data w9 (HHOK.out w9 S9).opts (HK.out.old (BW.out w9 S9)).hok.opts HPL.out (HLA.out w9 S9).vs HK.out.hok.on HK.out.hok.dl (HHOK.out w9 S9).seg (HK.out.old (BW.out w9 S9)).hok.seg HK.out.hok.d256
      go_upto_region 20 with fail
      go_wp2_with (first | (refine wpList_load_h4 _ rfl H o.h (.slice ma o.ln mc) (.slice (some ⟨g, 0, none⟩) o.n c) rfl (HHA.out w9 S9) rfl ?_) | (refine wpList_load_h4m _ rfl O o rfl (HBA.out w9 S9) rfl ?_))
      refine Calls.mono QM.out ?_
      rintro e wX ⟨rfl, hbX⟩
      have SX : Below w7.heap.size w7 wX := bthen S9 hbX
      have x44 := (HBA.out wX SX).c44
      have QK : Hid _ := kept_any g 0 o.da o.n c o.c o.h.data wX HK.out.hok.dl (owns_at (HGA.out wX SX)).1 (HK.out.old (BW.out wX SX)).hok.seg HK.out.hok.d256 (owns_at (HGA.out wX SX)).2.1 HK.out.hsm.n
      clear QM hbX
      go_wp2_with fail
      refine Calls.mono QK.out ?_
      rintro e wY ⟨rfl, rfl⟩
      have x43 := (HBA.out wX SX).c43
      have QL : Hid _ := same_laid ma wa o.la o.ln mc wc o.lc o.os ps wX HK.out.hok.ol HPL.out HMC.out (HLA.out wX SX) (HK.out.old (BW.out wX SX)).hok.opts HK.out.hsm.ln HK.out.hsm.d
      clear QK x44
      go_wp2_with fail
      refine Calls.mono QL.out ?_
      rintro e wY ⟨rfl, hbY⟩
      have SY : Below w7.heap.size w7 wY := bthen SX hbY
      have x45 := (HBA.out wY SY).c45
      have QL2 : Hid _ := same_laid ma2 wa2 o.ma o.mn mc2 wc2 o.mc o.ms ps2 wY HK.out.ml HPL2.out HMC2.out (HLB.out wY SY) (HK.out.old (BW.out wY SY)).mo HK.out.mm HK.out.md
      clear QL hbY SX x43
      go_wp2_with fail
      refine Calls.mono QL2.out ?_
      rintro e wZ ⟨rfl, hbZ⟩
      have SZ : Below w7.heap.size w7 wZ := bthen SY hbZ
      go_wp2
      go_ret
      exact ⟨rfl, BW.out wZ SZ⟩
  have f6 : (kd == 6) = false := by rw [beq_eq_false_iff_ne]; exact k6
  clear k2 k3 k6
  have QM : Hid _ := same_true o.h ma o.la (some ⟨g, 0, none⟩) o.da o.ln mc o.lc o.n c o.c ps o.os o.h.data w7 (HHOK.out w7 S7).opts (HK.out.old (BW.out w7 S7)).hok.opts HPL.out (HLA.out w7 S7).vs HK.out.hok.on HK.out.hok.dl (HHOK.out w7 S7).seg (HK.out.old (BW.out w7 S7)).hok.seg HK.out.hok.d256
  go_upto_region 20 with fail
  go_wp2_with (first | (refine wpList_load_h4 _ rfl H o.h (.slice ma o.ln mc) (.slice (some ⟨g, 0, none⟩) o.n c) rfl (HHA.out w7 S7) rfl ?_) | (refine wpList_load_h4m _ rfl O o rfl (HBA.out w7 S7) rfl ?_))
  refine Calls.mono QM.out ?_
  rintro e wX ⟨rfl, hbX⟩
  have SX : Below w7.heap.size w7 wX := bthen S7 hbX
  have x44 := (HBA.out wX SX).c44
  have QK : Hid _ := kept_any g 0 o.da o.n c o.c o.h.data wX HK.out.hok.dl (owns_at (HGA.out wX SX)).1 (HK.out.old (BW.out wX SX)).hok.seg HK.out.hok.d256 (owns_at (HGA.out wX SX)).2.1 HK.out.hsm.n
  clear QM hbX
  go_wp2_with fail
  refine Calls.mono QK.out ?_
  rintro e wY ⟨rfl, rfl⟩
  have x43 := (HBA.out wX SX).c43
  have QL : Hid _ := same_laid ma wa o.la o.ln mc wc o.lc o.os ps wX HK.out.hok.ol HPL.out HMC.out (HLA.out wX SX) (HK.out.old (BW.out wX SX)).hok.opts HK.out.hsm.ln HK.out.hsm.d
  clear QK x44
  go_wp2_with fail
  refine Calls.mono QL.out ?_
  rintro e wY ⟨rfl, hbY⟩
  have SY : Below w7.heap.size w7 wY := bthen SX hbY
  have x45 := (HBA.out wY SY).c45
  have QL2 : Hid _ := same_laid ma2 wa2 o.ma o.mn mc2 wc2 o.mc o.ms ps2 wY HK.out.ml HPL2.out HMC2.out (HLB.out wY SY) (HK.out.old (BW.out wY SY)).mo HK.out.mm HK.out.md
  clear QL hbY SX x43
  go_wp2_with fail
  refine Calls.mono QL2.out ?_
  rintro e wZ ⟨rfl, hbZ⟩
  have SZ : Below w7.heap.size w7 wZ := bthen SY hbZ
  go_wp2
  go_ret
  exact ⟨rfl, BW.out wZ SZ⟩
set_option maxHeartbeats 6400000 in
set_option maxRecDepth 100000 in
theorem plays_any (w : World) (hw : Wid w) (a : Option Addr) (n cap : Nat) (rs : List OpR) (hn : rs.length = n) (hr : ListG 46 OpR.cells (OpR.Ok w) w a rs) (hm : n ≤ 1048576) (lo hi : Int) :
    Calls Tryd.prog 34 #[.slice a n cap, .int .i64 lo, .int .i64 hi] w fun e w' => e = .returned (.bool true) ∧ Below w.heap.size w w' := by
  have HN : Hid (rs.length = n) := hn
  have HR : Hid (ListG 46 OpR.cells (OpR.Ok w) w a rs) := hr
  have HWID : Hid (∀ A, Below w.heap.size w A → Wid A) := fun A hA => hw.old hA
  have QS : Hid _ := started_any w hw
  clear hn hr hw
  go_enter Tryd.func34, Tryd.ntmps34
  go_wp2_with fail
  refine Calls.mono QS.out ?_
  rintro e w1 ⟨rfl, bel1⟩
  clear QS
  go_wp2
  go_loopw [7, 8] (fun b ix wr => ∃ k : Nat, b = .bool true ∧ ix = .int .i64 k ∧ k ≤ n ∧ Hid (Below w.heap.size w wr)) (fun _ ix _ => n - (intOf ix).toNat)
  case atStart => exact ⟨0, rfl, rfl, Nat.zero_le _, bel1⟩
  case round =>
    obtain ⟨k, rfl, rfl, hk, HBE⟩ := hrel
    by_cases hlt : k < n
    · obtain ⟨o, hok⟩ : ∃ o, rs[k]? = some o := ⟨_, List.getElem?_eq_getElem (by rw [HN.out]; exact hlt)⟩
      obtain ⟨hoo, b, off, rfl, hbl, hc⟩ := HR.out.at k o hok
      have HRG : Hid (wr.rangeAt b (off + k * 46) o.cells) := fun j v hj => by
        have h46 : j < 46 := (List.getElem?_eq_some_iff.1 hj).1
        exact (HBE.out.cell (p := ⟨b, off + k * 46 + j, none⟩) hbl).trans ((hc j h46).trans hj)
      have HOK : Hid (∀ A, Below w.heap.size w A → o.Ok A) := fun A hA => hoo.old hA
      have j0 : (0 : Int) ≤ (k : Int) := by omega
      have j1 : (k : Int) < (n : Int) := by omega
      have j2 : ((k : Int)).toNat = k := by omega
      have wk : IntKind.i64.wrap ((k : Int) + 1) = (k : Int) + 1 := by rw [IntKind.wrap_i64]; omega
      clear hok hoo hc hbl
      go_upto_region 6 with (first | (refine wpList_load_opm _ rfl b (off + k * 46) o rfl HRG.out rfl ?_) | (refine wpList_alloc_op rfl rfl ?_) | (refine wpList_store_op (.tmp 9) (.tmp 23) rfl rfl wr.heap.size opz o rfl rfl (opAt_new _ _) rfl ?_))
      intro w2 hP2 k2
      have sb2 := stored_below k2
      have bel2 := bthen HBE.out sb2
      obtain ⟨O, hO⟩ : ∃ O, O = wr.heap.size := ⟨_, rfl⟩
      rw [← hO] at hP2 ⊢
      have HP2 : Hid (OpAt w2 O o) := hP2
      have c0 := hP2.c0
      obtain ⟨kd, hkd⟩ : ∃ kd, kd = o.kind := ⟨_, rfl⟩
      rw [← hkd] at c0
      have HB2 : Hid (Below w.heap.size w w2) := bel2
      clear hP2 k2 sb2 hO hkd HRG HBE
      by_cases hlo : kd < lo
      · go_wp2
        go_roundw
        case rel => exact ⟨k + 1, rfl, by go_num, by omega, HB2⟩
        case measure => simp [intOf]; omega
      by_cases hhi : hi < kd
      · go_wp2
        go_roundw
        case rel => exact ⟨k + 1, rfl, by go_num, by omega, HB2⟩
        case measure => simp [intOf]; omega
      have QV : Hid _ := values_any o w2 (HWID.out w2 bel2) (HOK.out w2 bel2)
      have QB : Hid _ := bytes_any o w2 (HWID.out w2 bel2) (HOK.out w2 bel2)
      clear bel2
      by_cases k2 : kd = 2
      · subst k2
        go_wp2_with (first | (refine wpList_load_op _ rfl O o rfl HP2.out rfl ?_))
        refine Calls.mono QV.out ?_
        rintro e w3 ⟨rfl, hb3⟩
        have HB3 : Hid (Below w.heap.size w w3) := bthen HB2.out hb3
        clear hb3
        go_wp2
        go_roundw
        case rel => exact ⟨k + 1, rfl, by go_num, by omega, HB3⟩
        case measure => simp [intOf]; omega
      have f2 : (kd == 2) = false := by rw [beq_eq_false_iff_ne]; exact k2
      by_cases k3 : kd = 3
      · subst k3
        go_wp2_with (first | (refine wpList_load_op _ rfl O o rfl HP2.out rfl ?_))
        refine Calls.mono QV.out ?_
        rintro e w3 ⟨rfl, hb3⟩
        have HB3 : Hid (Below w.heap.size w w3) := bthen HB2.out hb3
        clear hb3
        go_wp2
        go_roundw
        case rel => exact ⟨k + 1, rfl, by go_num, by omega, HB3⟩
        case measure => simp [intOf]; omega
      have f3 : (kd == 3) = false := by rw [beq_eq_false_iff_ne]; exact k3
      by_cases k6 : kd = 6
      · subst k6
        go_wp2_with (first | (refine wpList_load_op _ rfl O o rfl HP2.out rfl ?_))
        refine Calls.mono QV.out ?_
        rintro e w3 ⟨rfl, hb3⟩
        have HB3 : Hid (Below w.heap.size w w3) := bthen HB2.out hb3
        clear hb3
        go_wp2
        go_roundw
        case rel => exact ⟨k + 1, rfl, by go_num, by omega, HB3⟩
        case measure => simp [intOf]; omega
      have f6 : (kd == 6) = false := by rw [beq_eq_false_iff_ne]; exact k6
      go_wp2_with (first | (refine wpList_load_op _ rfl O o rfl HP2.out rfl ?_))
      refine Calls.mono QB.out ?_
      rintro e w3 ⟨rfl, hb3⟩
      have HB3 : Hid (Below w.heap.size w w3) := bthen HB2.out hb3
      clear hb3
      go_wp2
      go_roundw
      case rel => exact ⟨k + 1, rfl, by go_num, by omega, HB3⟩
      case measure => simp [intOf]; omega
    · have hni : ¬ ((k : Int) < (n : Int)) := by omega
      clear hlt
      go_wp2
      go_ret
      exact ⟨rfl, HBE.out⟩
end Go.Proofs.YtdinhgfkpjaipaaDoor
