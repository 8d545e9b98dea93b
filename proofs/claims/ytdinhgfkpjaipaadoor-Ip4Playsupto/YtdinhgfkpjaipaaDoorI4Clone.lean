/-
  Copied; CloneOpts; Clone.
-/
import Derived.Test.YtdinhgfkpjaipaaDoorI4Open
import Derived.Test.YtdinhgfkpjaipaaDoorI4Har3
namespace Go.Proofs.YtdinhgfkpjaipaaDoor
open Go.RowKit
open I4 (H4)

set_option maxHeartbeats 800000 in
set_option maxRecDepth 100000 in
theorem copied_any (a : Option Addr) (n cap : Nat) (l : List Nat) (w : World) (hn : l.length = n) (hs : Seg .u8 w a (toI l)) (hm : n ≤ 140737488355328) :
    Calls Tryd.prog 27 #[.slice a n cap] w fun e w' => ∃ v, e = .returned v ∧ w'.ownsRow w.heap.size 5 1 v n ((toI l).map (Value.int .u8)) ∧ Below w.heap.size w w' := by
  obtain ⟨i0, hi, hz0, hz1, hz2⟩ := info_parts Tryd.infoByte
  have HN : Hid (l.length = n) := hn
  have HS : Hid (Seg .u8 w a (toI l)) := hs
  clear hn hs
  go_enter Tryd.func27, Tryd.ntmps27
  go_wp2_with (first | (at_builtin; refine append_split_seg rfl (.tmp 4) (.tmp 5) 26 rfl w.heap.size 5 i0 (.int .u8 0) 1 Tryd.underlying26 hi hz0 hz1 hz2 rfl (.slice none 0 0) 0 [] rfl (World.ownsRow_nil _ _ _ _) .u8 a n cap (toI l) rfl (by rw [toI_len]; exact HN.out) HS.out (by unfold maxLen; omega) (by omega) (Nat.le_refl _) ?_))
  intro v' w' ho hq hg
  have hb : Below w.heap.size w w' := (Below.refl _ _).grown hg (Nat.le_refl _) (by intro k hk; simp [Value.ownBlock] at hk)
  have HO : Hid (w'.ownsRow w.heap.size 5 1 v' n ((toI l).map (Value.int .u8))) := by
    have h1 : w'.ownsRow w.heap.size 5 1 v' n ((toI l).map (Value.int .u8)) := by simpa using ho
    exact h1
  clear ho hq hg
  go_wp2
  go_ret
  exact ⟨_, rfl, HO.out, hb⟩
theorem kindN {w : World} {B : Nat} {e : TypeId} {sz : Nat} {v : Value} {n : Nat} {xs : List Value} (h : w.ownsRow B e sz v n xs) : ∀ g, v.ownBlock = some g → ∃ c, w.heap[g]? = some (.cells c e (0, 0)) := by
  intro g hg
  rcases h.2 with ⟨rfl, _⟩ | ⟨g', cap, cur, rfl, _, hh, _⟩
  · simp [Value.ownBlock] at hg
  · simp [Value.ownBlock] at hg; subst hg; exact ⟨cur, hh⟩
theorem apartN {w : World} {B B' : Nat} {e e' : TypeId} {s s' : Nat} {v v' : Value} {n n' : Nat} {xs xs' : List Value} (h : w.ownsRow B e s v n xs) (h' : w.ownsRow B' e' s' v' n' xs') (hne : e ≠ e') : v.ownBlock = none ∨ v.ownBlock ≠ v'.ownBlock := by
  cases hv : v.ownBlock with
  | none => exact .inl rfl
  | some g =>
    refine .inr (fun hc => hne ?_)
    obtain ⟨c, hc1⟩ := kindN h g hv
    obtain ⟨c', hc2⟩ := kindN h' g hc.symm
    rw [hc1] at hc2
    simp at hc2
    exact hc2.2
def opCs (ps : List OpV) : List Value := ps.flatMap OpCells
theorem opCs_snoc (ps : List OpV) (p : OpV) : opCs (ps ++ [p]) = opCs ps ++ OpCells p := by simp [opCs]
theorem opCs_get (ps : List OpV) (i : Nat) (o : OpV) (h : ps[i]? = some o) : (opCs ps)[i * 2]? = some (.int .i64 o.k) ∧ (opCs ps)[i * 2 + 1]? = some (.slice o.a o.d.length o.c) := by
  induction ps generalizing i with
  | nil => simp at h
  | cons p ps ih =>
    have e : opCs (p :: ps) = .int .i64 p.k :: .slice p.a p.d.length p.c :: opCs ps := by simp [opCs, OpCells]
    rw [e]
    cases i with
    | zero => simp at h; subst h; exact ⟨rfl, rfl⟩
    | succ i =>
      have := ih i (by simpa using h)
      rw [show (i + 1) * 2 = i * 2 + 1 + 1 by omega, show i * 2 + 1 + 1 + 1 = (i * 2 + 1) + 1 + 1 by omega]
      simpa using this
/-- the state of CloneOpts' loop -/
structure CoS (w : World) (os : List OpV) (v : Value) (k : Nat) (ps : List OpV) (wr : World) : Prop where
  own : wr.ownsRow w.heap.size 43 2 v ps.length (opCs ps)
  rows : ∀ p ∈ ps, wr.ownsRow w.heap.size 5 1 (.slice p.a p.d.length p.c) p.d.length ((toI p.d).map (Value.int .u8))
  vs : vals ps = (vals os).take k
  bel : Below w.heap.size w wr
theorem CoS.len {w wr : World} {os ps : List OpV} {v : Value} {k : Nat} (h : CoS w os v k ps wr) (hk : k ≤ os.length) : ps.length = k := by
  have := congrArg List.length h.vs
  simp only [vals, List.length_map, List.length_take] at this
  omega
theorem CoS.below {w wr w' : World} {os ps : List OpV} {v : Value} {k : Nat} (h : CoS w os v k ps wr) (b : Below wr.heap.size wr w') : CoS w os v k ps w' :=
  ⟨(Ch.ofBelow (S := fun _ => False) b).owns h.own (fun _ _ => id), fun p hp => (Ch.ofBelow (S := fun _ => False) b).owns (h.rows p hp) (fun _ _ => id), h.vs, h.bel.trans (b.mono h.bel.size)⟩
theorem CoS.opts {w wr : World} {os ps : List OpV} {la : Option Addr} {n lc k : Nat} (h : CoS w os (.slice la n lc) k ps wr) (hn : ps.length = n) (ho : ∀ o ∈ vals os, ∀ x ∈ o.2, x < 256) : OptsAt wr la ps := by
  have hown := h.own
  rw [hn] at hown
  rcases hown.2 with ⟨_, h0⟩ | ⟨g, cap, cur, e, _, hg, _, _, _, ht⟩
  · left; exact List.eq_nil_of_length_eq_zero (by omega)
  · simp only [Value.slice.injEq, true_and] at e
    obtain ⟨rfl, rfl⟩ := e
    refine .inr ⟨g, 0, rfl, (Array.getElem?_eq_some_iff.1 hg).1, fun i o hi => ?_⟩
    have hpm := List.mem_of_getElem? hi
    have hin : i < n := by have := (List.getElem?_eq_some_iff.1 hi).1; omega
    obtain ⟨c1, c2⟩ := opCs_get ps i o hi
    have d1 := hown.cellAt (i * 2) (by omega)
    have d2 := hown.cellAt (i * 2 + 1) (by omega)
    rw [c1] at d1
    rw [c2] at d2
    obtain ⟨a', c', e1, hsg, _, q1, q2⟩ := owns_seg (h.rows o hpm)
    simp only [Value.slice.injEq, true_and] at e1
    refine ⟨⟨by rw [e1.1]; exact hsg, ?_, by rw [e1.2]; exact q1, by rw [e1.2]; unfold maxLen at q2; exact q2⟩, by rw [Nat.zero_add]; exact d1, by rw [Nat.zero_add]; exact d2⟩
    have hv : o.val ∈ vals os := by
      have : o.val ∈ vals ps := List.mem_map.2 ⟨o, hpm, rfl⟩
      rw [h.vs] at this
      exact List.mem_of_mem_take this
    exact ho _ hv
set_option maxHeartbeats 6400000 in
set_option maxRecDepth 100000 in
theorem cloneOpts_any (la : Option Addr) (n cap : Nat) (os : List OpV) (w : World) (hn : os.length = n) (ho : OptsAt w la os) (hb : n ≤ 1048576) (hd : ∀ o ∈ os, o.d.length ≤ 1048576) :
    Calls Tryd.prog 61 #[.slice la n cap] w fun e w' => ∃ lb lc, e = .returned (.slice lb n lc) ∧ Below w.heap.size w w' ∧ ∃ ps : List OpV, ps.length = n ∧ vals ps = vals os ∧ OptsAt w' lb ps ∧ CoS w os (.slice lb n lc) n ps w' := by
  obtain ⟨i0, hi, hz0, hz1, hz2⟩ := info_parts Tryd.infoOpt
  have HN : Hid (os.length = n) := hn
  have HO : Hid (OptsAt w la os) := ho
  have HD : Hid (∀ o ∈ os, o.d.length ≤ 1048576) := hd
  have HS0 : Hid (CoS w os (.slice none 0 0) 0 [] w) := ⟨World.ownsRow_nil _ _ _ _, by simp, by simp [vals], Below.refl _ _⟩
  clear hn ho hd
  go_enter Tryd.func61, Tryd.ntmps61
  go_wp2
  go_loopw [3, 4] (fun l ix wr => ∃ (k : Nat) (v : Value) (ps : List OpV), v = l ∧ ix = .int .i64 k ∧ k ≤ n ∧ Hid (CoS w os v k ps wr)) (fun _ ix _ => n - (intOf ix).toNat)
  case atStart => exact ⟨0, _, [], rfl, rfl, Nat.zero_le _, HS0⟩
  case round =>
    obtain ⟨k, v, ps, rfl, rfl, hk, HS⟩ := hrel
    by_cases hlt : k < n
    · obtain ⟨o, hok⟩ : ∃ o, os[k]? = some o := ⟨_, List.getElem?_eq_getElem (by rw [HN.out]; exact hlt)⟩
      obtain ⟨b1, o1, rfl, hl1, ok1, c10, c11⟩ := HO.out.at k o hok
      have hdl := HD.out o (List.mem_of_getElem? hok)
      obtain ⟨kd, hkd⟩ : ∃ kd, kd = o.k := ⟨_, rfl⟩
      obtain ⟨D, hDD⟩ : ∃ D, D = o.d.length := ⟨_, rfl⟩
      rw [← hkd] at c10
      rw [← hDD] at c11 hdl
      have F10 : Hid (∀ x, Below w.heap.size w x → x.cell? ⟨b1, o1 + k * 2, none⟩ = some (.int .i64 kd)) := fun x hx => (hx.cell (p := ⟨b1, o1 + k * 2, none⟩) hl1).trans c10
      have F11 : Hid (∀ x, Below w.heap.size w x → x.cell? ⟨b1, o1 + k * 2 + 1, none⟩ = some (.slice o.a D o.c)) := fun x hx => (hx.cell (p := ⟨b1, o1 + k * 2 + 1, none⟩) hl1).trans c11
      have QQ : Hid (∀ x, Below w.heap.size w x → Calls Tryd.prog 27 #[.slice o.a D o.c] x fun e w' => ∃ v, e = .returned v ∧ w'.ownsRow x.heap.size 5 1 v D ((toI o.d).map (Value.int .u8)) ∧ Below x.heap.size x w') := fun x hx => copied_any o.a D o.c o.d x hDD.symm (ok1.seg.old hx) (by omega)
      have HVO : Hid (os[k]? = some o) := hok
      have HKD : Hid (kd = o.k) := hkd
      have HDD : Hid (D = o.d.length) := hDD
      have k0 : (0 : Int) ≤ (k : Int) := by omega
      have k1 : (k : Int) < (n : Int) := by omega
      have k2 : ((k : Int)).toNat = k := by omega
      have wk : IntKind.i64.wrap ((k : Int) + 1) = (k : Int) + 1 := by rw [IntKind.wrap_i64]; omega
      clear hok ok1 c10 c11 hkd hDD hl1
      go_wp2
      refine MixH.start (fun x => Below w.heap.size w x) (by kernel_rfl) ?_
      obtain ⟨wA, hwA⟩ : ∃ wA, wA = wr.drew := ⟨_, rfl⟩
      have HSA : Hid (CoS w os v k ps wA) := by rw [hwA]; exact HS.out.below (Below.refl _ _).drew
      have hS : Below w.heap.size w wA := HSA.out.bel
      rw [← hwA]
      clear hwA HS
      refine MixH.takes [true, true, true, true, true, false, true, true, true, true] 7 (by kernel_rfl) (by kernel_rfl) (by decide) (by kernel_rfl) hS (fun K hK => ?_)
      simp only [Mix.pick]
      repeat (go_big_quiet_step (fail))
      refine wpQuiet_nil (hK _ ?_)
      clear hK K
      refine MixH.take 6 5 _ (.int .i64 kd) rfl (by kernel_rfl) (by kernel_rfl) (by kernel_rfl) (by kernel_rfl) (yields_int (.tmp 15) rfl ⟨b1, o1 + k * 2, none⟩ _ rfl rfl F10.out) hS (fun a' ha => ?_)
      simp only [Act.put, List.setIfInBounds_toArray, List.set_cons_succ, List.set_cons_zero] at ha
      subst ha
      refine MixH.take 5 10 _ (.slice o.a D o.c) rfl (by kernel_rfl) (by kernel_rfl) (by kernel_rfl) (by kernel_rfl) (yields_bytes (.tmp 20) rfl ⟨b1, o1 + k * 2 + 1, none⟩ _ rfl rfl F11.out) hS (fun a' ha => ?_)
      simp only [Act.put, List.setIfInBounds_toArray, List.set_cons_succ, List.set_cons_zero] at ha
      subst ha
      refine MixH.one [false, false, false, false, false, false, false, false, false, false, false, true] 4 11 _ rfl rfl (by kernel_rfl) (by kernel_rfl) (fun K hK => ?_)
      simp only [Mix.pick]
      go_wp2_with fail
      refine Calls.mono (QQ.out wA hS) ?_
      rintro e w1 ⟨v1, rfl, ho1, hb1⟩
      obtain ⟨va, vc, rfl⟩ := owns_shape ho1
      have HSB : Hid (CoS w os v k ps w1) := HSA.out.below hb1
      have HO1 : Hid (w1.ownsRow w.heap.size 5 1 (.slice va D vc) D ((toI o.d).map (Value.int .u8))) := owns_mono ho1 hS.size
      replace hS : Below w.heap.size w w1 := HSB.out.bel
      clear ho1 hb1 HSA QQ
      go_wp2
      refine ⟨rfl, hK _ _ hS ?_⟩
      clear hK K
      refine MixH.one [false, false, false, false, false, false, false, false, false, false, false, false, true] 3 12 _ rfl rfl (by kernel_rfl) (by kernel_rfl) (fun K hK => ?_)
      simp only [Mix.pick]
      go_wp2
      refine ⟨rfl, hK _ _ hS ?_⟩
      clear hK K
      refine MixH.one [false, false, false, false, false, false, false, false, false, false, false, false, false, true] 2 13 _ rfl rfl (by kernel_rfl) (by kernel_rfl) (fun K hK => ?_)
      simp only [Mix.pick]
      have hSn : Below w.heap.size w (w1.alloc (.cells #[.int .i64 kd, .slice va D vc] 43)) := hS.alloc hS.size _
      go_wp2
      clear hS
      have hS := hSn
      refine ⟨rfl, hK _ _ hS ?_⟩
      clear hK K
      obtain ⟨w2, hw2⟩ : ∃ w2, w2 = w1.alloc (.cells #[.int .i64 kd, .slice va D vc] 43) := ⟨_, rfl⟩
      have b12 : Below w1.heap.size w1 w2 := by rw [hw2]; exact (Below.refl _ _).alloc (Nat.le_refl _) _
      have HSC : Hid (CoS w os v k ps w2) := HSB.out.below b12
      have HO2 : Hid (w2.ownsRow w.heap.size 5 1 (.slice va D vc) D ((toI o.d).map (Value.int .u8))) := (Ch.ofBelow (S := fun _ => False) b12).owns HO1.out (fun _ _ => id)
      have TWO : Hid (∀ j u, ([.int .i64 kd, .slice va D vc] : List Value)[j]? = some u → w2.cell? ((⟨w1.heap.size, 0, none⟩ : Addr).add j) = some u) := by rw [hw2]; exact two_new _ _ _ _
      have hpl : ps.length = k := HSC.out.len (by rw [HN.out]; omega)
      have hown : w2.ownsRow w.heap.size 43 2 v k (opCs ps) := by have := HSC.out.own; rw [hpl] at this; exact this
      have hsz : w.heap.size ≤ w2.heap.size := HSC.out.bel.size
      rw [← hw2] at hS hSn ⊢
      clear hw2 b12 HSB HO1 hSn hpl
      refine MixH.one [false, false, false, false, false, false, false, false, false, false, false, false, false, false, true] 1 14 _ rfl rfl (by kernel_rfl) (by kernel_rfl) (fun K hK => ?_)
      simp only [Mix.pick]
      refine wpList_append_own_at _ rfl (.tmp 11) (.tmp 24) 25 rfl w.heap.size 43 i0 _ 2 32 Tryd.underlying25 hi hz0 hz1 hz2 rfl (by decide) v k (opCs ps) rfl hown ⟨w1.heap.size, 0, none⟩ 1 1 [.int .i64 kd, .slice va D vc] rfl rfl TWO.out ?c2 ?c3 ?c4 hsz ?_
      case c2 => intro u hu; simp at hu; rcases hu with rfl | rfl <;> rfl
      case c3 => unfold maxLen; omega
      case c4 => omega
      intro v5 w5 ho5 hg5 _ hblk
      have HS5 : Hid (CoS w os v5 (k + 1) (ps ++ [⟨kd, va, vc, o.d⟩]) w5) := by
        have hpl : ps.length = k := HSC.out.len (by rw [HN.out]; omega)
        have hne : 5 ≠ 43 := by decide
        refine ⟨?_, ?_, ?_, ?_⟩
        · rw [opCs_snoc, List.length_append, hpl]
          have e2 : OpCells ⟨kd, va, vc, o.d⟩ = [.int .i64 kd, .slice va D vc] := by rw [OpCells, ← HDD.out]
          rw [e2]
          exact ho5
        · intro p hp
          rcases List.mem_append.1 hp with hp | hp
          · exact (HSC.out.rows p hp).kept hg5 (apartN (HSC.out.rows p hp) HSC.out.own hne)
          · simp at hp
            subst hp
            show w5.ownsRow w.heap.size 5 1 (.slice va o.d.length vc) o.d.length _
            rw [← HDD.out]
            exact HO2.out.kept hg5 (apartN HO2.out HSC.out.own hne)
        · rw [vals_take os k o HVO.out, vals, List.map_append]
          have := HSC.out.vs
          rw [vals] at this
          rw [this]
          simp [OpV.val, HKD.out]
        · exact HSC.out.bel.grown hg5 hsz (fun q hq => (HSC.out.own.lt q hq).1)
      replace hS : Below w.heap.size w w5 := HS5.out.bel
      clear ho5 hg5 hblk hown HSC HO2 TWO
      go_wp2
      refine ⟨rfl, hK _ _ hS ?_⟩
      clear hK K
      refine MixH.takes [false, false, false, false, false, false, false, false, false, false, false, false, false, false, false, true] 0 (by kernel_rfl) (by kernel_rfl) (by decide) (by kernel_rfl) hS (fun K hK => ?_)
      simp only [Mix.pick]
      repeat (go_big_quiet_step (fail))
      refine wpQuiet_nil (hK _ ?_)
      clear hK K
      refine MixH.done (by kernel_rfl) ?_
      go_wp2
      go_roundw
      case rel => exact ⟨k + 1, v5, _, rfl, by go_num, by omega, HS5⟩
      case measure => simp [intOf]; omega
    · have hkn : k = n := by omega
      subst hkn
      have hni : ¬ ((k : Int) < (k : Int)) := by omega
      have hpl : ps.length = k := HS.out.len (by rw [HN.out]; exact Nat.le_refl _)
      obtain ⟨lb, lc, rfl⟩ := owns_shape HS.out.own
      rw [hpl] at HS ⊢
      have HV : Hid (vals ps = vals os) := by show _ = _; rw [HS.out.vs, List.take_of_length_le (by simp [vals, HN.out])]
      have HP : Hid (ps.length = k) := hpl
      clear hlt hpl
      go_wp2
      go_ret
      exact ⟨lb, lc, rfl, HS.out.bel, ps, HP.out, HV.out, HS.out.opts HP.out (opts_256 HO.out), HS.out⟩
theorem OptsAt.ch {S : Nat → Prop} {w w' : World} {la : Option Addr} {os : List OpV} (h : OptsAt w la os) (c : Ch S w w') (h1 : ∀ x, la = some x → ¬ S x.block) (h2 : ∀ o ∈ os, ∀ x, o.a = some x → ¬ S x.block) : OptsAt w' la os := by
  rcases h with h | ⟨b, off, ha, hlt, hc⟩
  · exact .inl h
  · have hb := h1 _ ha
    refine .inr ⟨b, off, ha, Nat.lt_of_lt_of_le hlt c.size, fun i o ho => ?_⟩
    obtain ⟨q1, q2, q3⟩ := hc i o ho
    exact ⟨⟨c.seg q1.seg (fun x _ hx => h2 o (List.mem_of_getElem? ho) x hx), q1.h256, q1.le, q1.cap⟩, c.cell q2 hb, c.cell q3 hb⟩
theorem own_addr {w : World} {B : Nat} {e : TypeId} {s n m c : Nat} {a : Option Addr} {xs : List Value} (h : w.ownsRow B e s (.slice a n c) m xs) (x : Addr) (hx : a = some x) : B ≤ x.block := by
  rcases h.2 with ⟨h0, _⟩ | ⟨g, cap, cur, e1, hb, _⟩
  · simp only [Value.slice.injEq] at h0
    rw [hx] at h0
    simp at h0
  · simp only [Value.slice.injEq] at e1
    rw [hx] at e1
    have := Option.some.inj e1.1
    rw [this]
    exact hb
set_option maxHeartbeats 3200000 in
set_option maxRecDepth 100000 in
theorem clone_any (h : H4) (la : Option Addr) (ln lc : Nat) (os : List OpV) (da : Option Addr) (n c : Nat) (w : World) (k : H4Ok w h la ln lc os da n c) (hln : ln ≤ 1048576) (hn : n ≤ 1048576) (hd : ∀ o ∈ os, o.d.length ≤ 1048576) :
    Calls Tryd.prog 29 #[.agg (h4C h (.slice la ln lc) (.slice da n c))] w fun e w' => ∃ lb mc db dc, e = .returned (.agg (h4C h (.slice lb ln mc) (.slice db n dc))) ∧ Below w.heap.size w w' ∧ ∃ ps, H4Ok w' h lb ln mc ps db n dc := by
  obtain ⟨W1, hW1⟩ : ∃ W, W = w.alloc (.cells (h4C h (.slice la ln lc) (.slice da n c)) 28) := ⟨_, rfl⟩
  obtain ⟨W, hW⟩ : ∃ W, W = W1.alloc (.cells (h4C h4z nilS nilS) 28) := ⟨_, rfl⟩
  obtain ⟨O, hO⟩ : ∃ O, O = w.heap.size := ⟨_, rfl⟩
  have hs1 : W1.heap.size = O + 1 := by rw [hW1, hO]; simp
  have bel1 : Below w.heap.size w W1 := by rw [hW1]; exact (Below.refl _ _).alloc (Nat.le_refl _) _
  have belW : Below W1.heap.size W1 W := by rw [hW]; exact (Below.refl _ _).alloc (Nat.le_refl _) _
  have bel := bthen bel1 belW
  have HB : Hid (H4At W O h (.slice la ln lc) (.slice da n c)) := by
    have : H4At W1 O h (.slice la ln lc) (.slice da n c) := by rw [hW1, hO]; exact h4At_new _ _ _ _
    exact this.below belW
  have HR : Hid (H4At W (O + 1) h4z nilS nilS) := by rw [hW, ← hs1]; exact h4At_new _ _ _ _
  have g41 := HB.out.c41
  obtain ⟨C, hC⟩ : ∃ C, C = h4C h (.slice la ln lc) (.slice da n c) := ⟨_, rfl⟩
  have hWW : (w.alloc (.cells C 28)).alloc (.cells (h4C h4z nilS nilS) 28) = W := by rw [hC, ← hW1]; exact hW.symm
  have HW : Hid _ := hWW
  have HO : Hid (w.heap.size = O) := hO.symm
  rw [← hC]
  have HK : Hid (H4Ok w h la ln lc os da n c) := k
  have HD : Hid (∀ o ∈ os, o.d.length ≤ 1048576) := hd
  clear hW1 hW hC hO hs1 bel1 belW k hd hWW
  go_enter Tryd.func29, Tryd.ntmps29
  go_upto_region 1 with (first | (refine wpList_alloc_h4 rfl rfl ?_))
  rw [HW.out, World.size_alloc, HO.out]
  have QO : Hid _ := cloneOpts_any la ln lc os W HK.out.ol (HK.out.old bel).opts hln HD.out
  go_wp2_with fail
  refine Calls.mono QO.out ?_
  rintro e w1 ⟨lb, mc, rfl, hb1, ps, hpl, hpv, hpo, hcs⟩
  have belA := bthen bel hb1
  have HB1 : H4At w1 O h (.slice la ln lc) (.slice da n c) := H4At.below HB.out hb1
  have HR1 : H4At w1 (O + 1) h4z nilS nilS := H4At.below HR.out hb1
  have c41 := HB1.c41
  have z41 := HB1.fz 41
  have s41 := HB1.set41 (.slice lb ln mc)
  have ltO : O < W.heap.size := HB.out.lt
  have HW2 : Hid (W.heap.size ≤ (w1.setCell ⟨O, 41, none⟩ (.slice lb ln mc)).heap.size) := by
    have h9 : W.heap.size ≤ (w1.setCell ⟨O, 41, none⟩ (.slice lb ln mc)).heap.size := by have := hb1.size; simpa using this
    exact h9
  have HB2 : Hid (H4At (w1.setCell ⟨O, 41, none⟩ (.slice lb ln mc)) O h (.slice lb ln mc) (.slice da n c)) := s41.1
  have HR2 : Hid (H4At (w1.setCell ⟨O, 41, none⟩ (.slice lb ln mc)) (O + 1) h4z nilS nilS) := HR1.ch s41.2 (fun e => by have e' : O + 1 = O := e; omega)
  have bel2 : Below w.heap.size w (w1.setCell ⟨O, 41, none⟩ (.slice lb ln mc)) := belA.trans (s41.2.below (fun q e => by have e' : q = O := e; have := HO.out; omega) belA.size)
  have hpo2 : OptsAt (w1.setCell ⟨O, 41, none⟩ (.slice lb ln mc)) lb ps := hpo.ch s41.2 (fun x hx e => by have e' : x.block = O := e; have := own_addr hcs.own x hx; omega) (fun o ho x hx e => by have e' : x.block = O := e; have := own_addr (hcs.rows o ho) x hx; omega)
  have HPB : Hid (∀ x, lb = some x → W.heap.size ≤ x.block) := fun x hx => own_addr hcs.own x hx
  have HPR : Hid (∀ o ∈ ps, ∀ x, o.a = some x → W.heap.size ≤ x.block) := fun o ho x hx => own_addr (hcs.rows o ho) x hx
  have HLO : Hid (O + 1 < W.heap.size) := HR.out.lt
  have HPL : Hid (ps.length = ln) := hpl
  have HPV : Hid (vals ps = vals os) := hpv
  obtain ⟨w2, hw2⟩ : ∃ w2, w2 = w1.setCell ⟨O, 41, none⟩ (.slice lb ln mc) := ⟨_, rfl⟩
  have E2 : Hid (w1.setCell ⟨O, 41, none⟩ (.slice lb ln mc) = w2) := hw2.symm
  rw [← hw2] at HB2 HR2 bel2 hpo2 HW2
  have HPO2 : Hid (OptsAt w2 lb ps) := hpo2
  have g42 : w2.cell? ⟨O, 42, none⟩ = some (.slice da n c) := HB2.out.c42
  have QC : Hid _ := copied_any da n c h.data w2 HK.out.dl (HK.out.old bel2).seg (by omega)
  clear hw2 s41 HB1 HR1 hpo hpo2 hcs hpl hpv belA hb1 HB HR bel QO
  go_upto_region 2 with fail
  rw [E2.out]
  clear E2 c41 z41 g41
  go_wp2_with fail
  refine Calls.mono QC.out ?_
  rintro e w3 ⟨v3, rfl, ho3, hb3⟩
  obtain ⟨db, dc, rfl⟩ := owns_shape ho3
  have belB := bthen bel2 hb3
  have HB3 : H4At w3 O h (.slice lb ln mc) (.slice da n c) := H4At.below HB2.out hb3
  have HR3 : H4At w3 (O + 1) h4z nilS nilS := H4At.below HR2.out hb3
  have c42 := HB3.c42
  have z42 := HB3.fz 42
  have s42 := HB3.set42 (.slice db n dc)
  have HB4 : Hid (H4At (w3.setCell ⟨O, 42, none⟩ (.slice db n dc)) O h (.slice lb ln mc) (.slice db n dc)) := s42.1
  have HR4 : Hid (H4At (w3.setCell ⟨O, 42, none⟩ (.slice db n dc)) (O + 1) h4z nilS nilS) := HR3.ch s42.2 (fun e => by have e' : O + 1 = O := e; omega)
  have bel4 : Below w.heap.size w (w3.setCell ⟨O, 42, none⟩ (.slice db n dc)) := belB.trans (s42.2.below (fun q e => by have e' : q = O := e; have := HO.out; omega) belB.size)
  have hlt2 : W.heap.size ≤ w2.heap.size ∧ O < w2.heap.size := ⟨HW2.out, HB2.out.lt⟩
  have hpo4 : OptsAt (w3.setCell ⟨O, 42, none⟩ (.slice db n dc)) lb ps := (HPO2.out.old hb3).ch s42.2 (fun x hx e => by have e' : x.block = O := e; have := HPB.out x hx; have := HLO.out; omega) (fun o ho x hx e => by have e' : x.block = O := e; have := HPR.out o ho x hx; have := HLO.out; omega)
  have hown4 : (w3.setCell ⟨O, 42, none⟩ (.slice db n dc)).ownsRow w2.heap.size 5 1 (.slice db n dc) n ((toI h.data).map (Value.int .u8)) := s42.2.owns ho3 (fun q hq e => by have e' : q = O := e; have := (ho3.lt q hq).1; omega)
  have HDB : Hid (∀ x, db = some x → w2.heap.size ≤ x.block) := fun x hx => own_addr ho3 x hx
  obtain ⟨w4, hw4⟩ : ∃ w4, w4 = w3.setCell ⟨O, 42, none⟩ (.slice db n dc) := ⟨_, rfl⟩
  have E4 : Hid (w3.setCell ⟨O, 42, none⟩ (.slice db n dc) = w4) := hw4.symm
  rw [← hw4] at HB4 HR4 bel4 hpo4 hown4
  have HPO4 : Hid (OptsAt w4 lb ps) := hpo4
  have HOW4 : Hid (w4.ownsRow w2.heap.size 5 1 (.slice db n dc) n ((toI h.data).map (Value.int .u8))) := hown4
  have HLO2 : Hid (O + 1 < w2.heap.size) := HR2.out.lt
  clear hw4 s42 HB3 HR3 hpo4 hown4 belB hb3 ho3 QC bel2 hlt2 g42
  go_upto_region 3 with fail
  rw [E4.out]
  clear E4 c42 z42
  go_wp2_with (first | (refine wpList_load_h4 _ rfl O h (.slice lb ln mc) (.slice db n dc) rfl HB4.out rfl ?_) | (refine wpList_store_h4 (.tmp 2) _ rfl rfl (O + 1) h4z h nilS nilS (.slice lb ln mc) (.slice db n dc) rfl rfl rfl rfl HR4.out rfl ?_))
  intro w5 hP5 k5
  have HP5 : Hid (H4At w5 (O + 1) h (.slice lb ln mc) (.slice db n dc)) := hP5
  have HF5 : Hid (Below w.heap.size w w5) := bel4.trans (k5.below (fun q e => by have e' : q = O + 1 := e; have := HO.out; omega) bel4.size)
  have HPO5 : Hid (OptsAt w5 lb ps) := HPO4.out.ch k5 (fun x hx e => by have e' : x.block = O + 1 := e; have := HPB.out x hx; have := HLO.out; omega) (fun o ho x hx e => by have e' : x.block = O + 1 := e; have := HPR.out o ho x hx; have := HLO.out; omega)
  have HOW5 : Hid (w5.ownsRow w2.heap.size 5 1 (.slice db n dc) n ((toI h.data).map (Value.int .u8))) := k5.owns HOW4.out (fun q hq e => by have e' : q = O + 1 := e; have := (HOW4.out.lt q hq).1; have := HLO2.out; omega)
  clear hP5 k5 bel4
  go_wp2
  (try simp only [Exit.inBlock, Exit.then])
  refine bodyPost_ret (v := .agg (h4C h (.slice lb ln mc) (.slice db n dc))) ?_ rfl ?_
  · exact results_cell_row rfl _ _ (O + 1) 28 _ _ _ rfl HP5.out Tryd.underlying28 rfl Tryd.sizeH4
  obtain ⟨a', c', e1, hsg, _, q1, q2⟩ := owns_seg HOW5.out
  simp only [Value.slice.injEq, true_and] at e1
  exact ⟨lb, mc, db, dc, rfl, HF5.out, ps, ⟨HK.out.sx, HK.out.dx, HPL.out, HPO5.out, by rw [HPV.out]; exact HK.out.hos, HK.out.on, HK.out.dl, by rw [e1.1]; exact hsg, HK.out.d256, by rw [e1.2]; exact q1, by rw [e1.2]; unfold maxLen at q2; exact q2, HK.out.dn⟩⟩
end Go.Proofs.YtdinhgfkpjaipaaDoor
