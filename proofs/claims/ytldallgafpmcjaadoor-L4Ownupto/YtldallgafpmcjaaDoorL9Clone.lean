/-
  Copied; CloneOpts (as in I4Clone); CloneUdp, CloneTcp.
-/
import Derived.Test.YtldallgafpmcjaaDoorL9Cl
import Derived.Test.YtldallgafpmcjaaDoorL9Har
namespace Go.Proofs.YtldallgafpmcjaaDoor
open Go.RowKit
open L4 (U9 T9)

set_option maxHeartbeats 800000 in
set_option maxRecDepth 100000 in
theorem copied_any (a : Option Addr) (n cap : Nat) (l : List Nat) (w : World) (hn : l.length = n) (hs : Seg .u8 w a (toI l)) (hm : n ≤ 140737488355328) :
    Calls Tryd.prog 11 #[.slice a n cap] w fun e w' => ∃ v, e = .returned v ∧ w'.ownsRow w.heap.size 5 1 v n ((toI l).map (Value.int .u8)) ∧ Below w.heap.size w w' := by
  obtain ⟨i0, hi, hz0, hz1, hz2⟩ := info_parts Tryd.infoByte
  have HN : Hid (l.length = n) := hn
  have HS : Hid (Seg .u8 w a (toI l)) := hs
  clear hn hs
  go_enter Tryd.func11, Tryd.ntmps11
  go_wp2_with (first | (at_builtin; refine append_split_seg rfl (.tmp 4) (.tmp 5) 25 rfl w.heap.size 5 i0 (.int .u8 0) 1 Tryd.underlying25 hi hz0 hz1 hz2 rfl (.slice none 0 0) 0 [] rfl (World.ownsRow_nil _ _ _ _) .u8 a n cap (toI l) rfl (by rw [toI_len]; exact HN.out) HS.out (by unfold maxLen; omega) (by omega) (Nat.le_refl _) ?_))
  intro v' w' ho hq hg
  have hb : Below w.heap.size w w' := (Below.refl _ _).grown hg (Nat.le_refl _) (by intro k hk; simp [Value.ownBlock] at hk)
  have HO : Hid (w'.ownsRow w.heap.size 5 1 v' n ((toI l).map (Value.int .u8))) := by
    have h1 : w'.ownsRow w.heap.size 5 1 v' n ((toI l).map (Value.int .u8)) := by simpa using ho
    exact h1
  clear ho hq hg
  go_wp2
  go_ret
  exact ⟨_, rfl, HO.out, hb⟩
theorem kindN {w : World} {B : Nat} {e : TypeId} {sz : Nat} {v : Value} {n : Nat} {xs : List Value} (h : w.ownsRow B e sz v n xs) : ∀ g, v.ownBlock = some g → ∃ c, w.heap[g]? = some (.cells c e (0, 0)) := by
  intro g hg
  rcases h.2 with ⟨rfl, _⟩ | ⟨g', cap, cur, rfl, _, hh, _⟩
  · simp [Value.ownBlock] at hg
  · simp [Value.ownBlock] at hg; subst hg; exact ⟨cur, hh⟩
theorem apartN {w : World} {B B' : Nat} {e e' : TypeId} {s s' : Nat} {v v' : Value} {n n' : Nat} {xs xs' : List Value} (h : w.ownsRow B e s v n xs) (h' : w.ownsRow B' e' s' v' n' xs') (hne : e ≠ e') : v.ownBlock = none ∨ v.ownBlock ≠ v'.ownBlock := by
  cases hv : v.ownBlock with
  | none => exact .inl rfl
  | some g =>
    refine .inr (fun hc => hne ?_)
    obtain ⟨c, hc1⟩ := kindN h g hv
    obtain ⟨c', hc2⟩ := kindN h' g hc.symm
    rw [hc1] at hc2
    simp at hc2
    exact hc2.2
def opC9 (o : OpV) : List Value := [.int .i64 o.k, .slice o.a o.d.length o.c]
def opCs (ps : List OpV) : List Value := ps.flatMap opC9
theorem opCs_snoc (ps : List OpV) (p : OpV) : opCs (ps ++ [p]) = opCs ps ++ opC9 p := by simp [opCs]
theorem opCs_get (ps : List OpV) (i : Nat) (o : OpV) (h : ps[i]? = some o) : (opCs ps)[i * 2]? = some (.int .i64 o.k) ∧ (opCs ps)[i * 2 + 1]? = some (.slice o.a o.d.length o.c) := by
  induction ps generalizing i with
  | nil => simp at h
  | cons p ps ih =>
    have e : opCs (p :: ps) = .int .i64 p.k :: .slice p.a p.d.length p.c :: opCs ps := by simp [opCs, opC9]
    rw [e]
    cases i with
    | zero => simp at h; subst h; exact ⟨rfl, rfl⟩
    | succ i =>
      have := ih i (by simpa using h)
      rw [show (i + 1) * 2 = i * 2 + 1 + 1 by omega, show i * 2 + 1 + 1 + 1 = (i * 2 + 1) + 1 + 1 by omega]
      simpa using this
/-- the state of CloneOpts' loop -/
structure CoS (w : World) (os : List OpV) (v : Value) (k : Nat) (ps : List OpV) (wr : World) : Prop where
  own : wr.ownsRow w.heap.size 45 2 v ps.length (opCs ps)
  rows : ∀ p ∈ ps, wr.ownsRow w.heap.size 5 1 (.slice p.a p.d.length p.c) p.d.length ((toI p.d).map (Value.int .u8))
  vs : vals ps = (vals os).take k
  bel : Below w.heap.size w wr
theorem CoS.len {w wr : World} {os ps : List OpV} {v : Value} {k : Nat} (h : CoS w os v k ps wr) (hk : k ≤ os.length) : ps.length = k := by
  have := congrArg List.length h.vs
  simp only [vals, List.length_map, List.length_take] at this
  omega
theorem CoS.below {w wr w' : World} {os ps : List OpV} {v : Value} {k : Nat} (h : CoS w os v k ps wr) (b : Below wr.heap.size wr w') : CoS w os v k ps w' :=
  ⟨(Ch.ofBelow (S := fun _ => False) b).owns h.own (fun _ _ => id), fun p hp => (Ch.ofBelow (S := fun _ => False) b).owns (h.rows p hp) (fun _ _ => id), h.vs, h.bel.trans (b.mono h.bel.size)⟩
theorem CoS.opts {w wr : World} {os ps : List OpV} {la : Option Addr} {n lc k : Nat} (h : CoS w os (.slice la n lc) k ps wr) (hn : ps.length = n) (ho : ∀ o ∈ vals os, ∀ x ∈ o.2, x < 256) : OptsAt wr la ps := by
  have hown := h.own
  rw [hn] at hown
  rcases hown.2 with ⟨_, h0⟩ | ⟨g, cap, cur, e, _, hg, _, _, _, ht⟩
  · left; exact List.eq_nil_of_length_eq_zero (by omega)
  · simp only [Value.slice.injEq, true_and] at e
    obtain ⟨rfl, rfl⟩ := e
    refine .inr ⟨g, 0, rfl, (Array.getElem?_eq_some_iff.1 hg).1, fun i o hi => ?_⟩
    have hpm := List.mem_of_getElem? hi
    have hin : i < n := by have := (List.getElem?_eq_some_iff.1 hi).1; omega
    obtain ⟨c1, c2⟩ := opCs_get ps i o hi
    have d1 := hown.cellAt (i * 2) (by omega)
    have d2 := hown.cellAt (i * 2 + 1) (by omega)
    rw [c1] at d1
    rw [c2] at d2
    obtain ⟨a', c', e1, hsg, _, q1, q2⟩ := owns_seg (h.rows o hpm)
    simp only [Value.slice.injEq, true_and] at e1
    refine ⟨⟨by rw [e1.1]; exact hsg, ?_, by rw [e1.2]; exact q1, by rw [e1.2]; unfold maxLen at q2; exact q2⟩, by rw [Nat.zero_add]; exact d1, by rw [Nat.zero_add]; exact d2⟩
    have hv : o.val ∈ vals os := by
      have : o.val ∈ vals ps := List.mem_map.2 ⟨o, hpm, rfl⟩
      rw [h.vs] at this
      exact List.mem_of_mem_take this
    exact ho _ hv
set_option maxHeartbeats 6400000 in
set_option maxRecDepth 100000 in
theorem cloneOpts_any (la : Option Addr) (n cap : Nat) (os : List OpV) (w : World) (hn : os.length = n) (ho : OptsAt w la os) (hb : n ≤ 1048576) (hd : ∀ o ∈ os, o.d.length ≤ 1048576) :
    Calls Tryd.prog 23 #[.slice la n cap] w fun e w' => ∃ lb lc, e = .returned (.slice lb n lc) ∧ Below w.heap.size w w' ∧ ∃ ps : List OpV, ps.length = n ∧ vals ps = vals os ∧ OptsAt w' lb ps ∧ CoS w os (.slice lb n lc) n ps w' := by
  obtain ⟨i0, hi, hz0, hz1, hz2⟩ := info_parts Tryd.infoOpt
  have HN : Hid (os.length = n) := hn
  have HO : Hid (OptsAt w la os) := ho
  have HD : Hid (∀ o ∈ os, o.d.length ≤ 1048576) := hd
  have HS0 : Hid (CoS w os (.slice none 0 0) 0 [] w) := ⟨World.ownsRow_nil _ _ _ _, by simp, by simp [vals], Below.refl _ _⟩
  clear hn ho hd
  go_enter Tryd.func23, Tryd.ntmps23
  go_wp2
  go_loopw [3, 4] (fun l ix wr => ∃ (k : Nat) (v : Value) (ps : List OpV), v = l ∧ ix = .int .i64 k ∧ k ≤ n ∧ Hid (CoS w os v k ps wr)) (fun _ ix _ => n - (intOf ix).toNat)
  case atStart => exact ⟨0, _, [], rfl, rfl, Nat.zero_le _, HS0⟩
  case round =>
    obtain ⟨k, v, ps, rfl, rfl, hk, HS⟩ := hrel
    by_cases hlt : k < n
    · obtain ⟨o, hok⟩ : ∃ o, os[k]? = some o := ⟨_, List.getElem?_eq_getElem (by rw [HN.out]; exact hlt)⟩
      obtain ⟨b1, o1, rfl, hl1, ok1, c10, c11⟩ := HO.out.at k o hok
      have hdl := HD.out o (List.mem_of_getElem? hok)
      obtain ⟨kd, hkd⟩ : ∃ kd, kd = o.k := ⟨_, rfl⟩
      obtain ⟨D, hDD⟩ : ∃ D, D = o.d.length := ⟨_, rfl⟩
      rw [← hkd] at c10
      rw [← hDD] at c11 hdl
      have F10 : Hid (∀ x, Below w.heap.size w x → x.cell? ⟨b1, o1 + k * 2, none⟩ = some (.int .i64 kd)) := fun x hx => (hx.cell (p := ⟨b1, o1 + k * 2, none⟩) hl1).trans c10
      have F11 : Hid (∀ x, Below w.heap.size w x → x.cell? ⟨b1, o1 + k * 2 + 1, none⟩ = some (.slice o.a D o.c)) := fun x hx => (hx.cell (p := ⟨b1, o1 + k * 2 + 1, none⟩) hl1).trans c11
      have QQ : Hid (∀ x, Below w.heap.size w x → Calls Tryd.prog 11 #[.slice o.a D o.c] x fun e w' => ∃ v, e = .returned v ∧ w'.ownsRow x.heap.size 5 1 v D ((toI o.d).map (Value.int .u8)) ∧ Below x.heap.size x w') := fun x hx => copied_any o.a D o.c o.d x hDD.symm (ok1.seg.old hx) (by omega)
      have HVO : Hid (os[k]? = some o) := hok
      have HKD : Hid (kd = o.k) := hkd
      have HDD : Hid (D = o.d.length) := hDD
      have k0 : (0 : Int) ≤ (k : Int) := by omega
      have k1 : (k : Int) < (n : Int) := by omega
      have k2 : ((k : Int)).toNat = k := by omega
      have wk : IntKind.i64.wrap ((k : Int) + 1) = (k : Int) + 1 := by rw [IntKind.wrap_i64]; omega
      clear hok ok1 c10 c11 hkd hDD hl1
      go_wp2
      refine MixH.start (fun x => Below w.heap.size w x) (by kernel_rfl) ?_
      obtain ⟨wA, hwA⟩ : ∃ wA, wA = wr.drew := ⟨_, rfl⟩
      have HSA : Hid (CoS w os v k ps wA) := by rw [hwA]; exact HS.out.below (Below.refl _ _).drew
      have hS : Below w.heap.size w wA := HSA.out.bel
      rw [← hwA]
      clear hwA HS
      refine MixH.takes [true, true, true, true, true, false, true, true, true, true] 7 (by kernel_rfl) (by kernel_rfl) (by decide) (by kernel_rfl) hS (fun K hK => ?_)
      simp only [Mix.pick]
      repeat (go_big_quiet_step (fail))
      refine wpQuiet_nil (hK _ ?_)
      clear hK K
      refine MixH.take 6 5 _ (.int .i64 kd) rfl (by kernel_rfl) (by kernel_rfl) (by kernel_rfl) (by kernel_rfl) (yields_int (.tmp 15) rfl ⟨b1, o1 + k * 2, none⟩ _ rfl rfl F10.out) hS (fun a' ha => ?_)
      simp only [Act.put, List.setIfInBounds_toArray, List.set_cons_succ, List.set_cons_zero] at ha
      subst ha
      refine MixH.take 5 10 _ (.slice o.a D o.c) rfl (by kernel_rfl) (by kernel_rfl) (by kernel_rfl) (by kernel_rfl) (yields_bytes (.tmp 20) rfl ⟨b1, o1 + k * 2 + 1, none⟩ _ rfl rfl F11.out) hS (fun a' ha => ?_)
      simp only [Act.put, List.setIfInBounds_toArray, List.set_cons_succ, List.set_cons_zero] at ha
      subst ha
      refine MixH.one [false, false, false, false, false, false, false, false, false, false, false, true] 4 11 _ rfl rfl (by kernel_rfl) (by kernel_rfl) (fun K hK => ?_)
      simp only [Mix.pick]
      go_wp2_with fail
      refine Calls.mono (QQ.out wA hS) ?_
      rintro e w1 ⟨v1, rfl, ho1, hb1⟩
      obtain ⟨va, vc, rfl⟩ := owns_shape ho1
      have HSB : Hid (CoS w os v k ps w1) := HSA.out.below hb1
      have HO1 : Hid (w1.ownsRow w.heap.size 5 1 (.slice va D vc) D ((toI o.d).map (Value.int .u8))) := owns_mono ho1 hS.size
      replace hS : Below w.heap.size w w1 := HSB.out.bel
      clear ho1 hb1 HSA QQ
      go_wp2
      refine ⟨rfl, hK _ _ hS ?_⟩
      clear hK K
      refine MixH.one [false, false, false, false, false, false, false, false, false, false, false, false, true] 3 12 _ rfl rfl (by kernel_rfl) (by kernel_rfl) (fun K hK => ?_)
      simp only [Mix.pick]
      go_wp2
      refine ⟨rfl, hK _ _ hS ?_⟩
      clear hK K
      refine MixH.one [false, false, false, false, false, false, false, false, false, false, false, false, false, true] 2 13 _ rfl rfl (by kernel_rfl) (by kernel_rfl) (fun K hK => ?_)
      simp only [Mix.pick]
      have hSn : Below w.heap.size w (w1.alloc (.cells #[.int .i64 kd, .slice va D vc] 45)) := hS.alloc hS.size _
      go_wp2
      clear hS
      have hS := hSn
      refine ⟨rfl, hK _ _ hS ?_⟩
      clear hK K
      obtain ⟨w2, hw2⟩ : ∃ w2, w2 = w1.alloc (.cells #[.int .i64 kd, .slice va D vc] 45) := ⟨_, rfl⟩
      have b12 : Below w1.heap.size w1 w2 := by rw [hw2]; exact (Below.refl _ _).alloc (Nat.le_refl _) _
      have HSC : Hid (CoS w os v k ps w2) := HSB.out.below b12
      have HO2 : Hid (w2.ownsRow w.heap.size 5 1 (.slice va D vc) D ((toI o.d).map (Value.int .u8))) := (Ch.ofBelow (S := fun _ => False) b12).owns HO1.out (fun _ _ => id)
      have TWO : Hid (∀ j u, ([.int .i64 kd, .slice va D vc] : List Value)[j]? = some u → w2.cell? ((⟨w1.heap.size, 0, none⟩ : Addr).add j) = some u) := by rw [hw2]; exact two_new _ _ _ _
      have hpl : ps.length = k := HSC.out.len (by rw [HN.out]; omega)
      have hown : w2.ownsRow w.heap.size 45 2 v k (opCs ps) := by have := HSC.out.own; rw [hpl] at this; exact this
      have hsz : w.heap.size ≤ w2.heap.size := HSC.out.bel.size
      rw [← hw2] at hS hSn ⊢
      clear hw2 b12 HSB HO1 hSn hpl
      refine MixH.one [false, false, false, false, false, false, false, false, false, false, false, false, false, false, true] 1 14 _ rfl rfl (by kernel_rfl) (by kernel_rfl) (fun K hK => ?_)
      simp only [Mix.pick]
      refine wpList_append_own_at _ rfl (.tmp 11) (.tmp 24) 28 rfl w.heap.size 45 i0 _ 2 32 Tryd.underlying28 hi hz0 hz1 hz2 rfl (by decide) v k (opCs ps) rfl hown ⟨w1.heap.size, 0, none⟩ 1 1 [.int .i64 kd, .slice va D vc] rfl rfl TWO.out ?c2 ?c3 ?c4 hsz ?_
      case c2 => intro u hu; simp at hu; rcases hu with rfl | rfl <;> rfl
      case c3 => unfold maxLen; omega
      case c4 => omega
      intro v5 w5 ho5 hg5 _ hblk
      have HS5 : Hid (CoS w os v5 (k + 1) (ps ++ [⟨kd, va, vc, o.d⟩]) w5) := by
        have hpl : ps.length = k := HSC.out.len (by rw [HN.out]; omega)
        have hne : 5 ≠ 45 := by decide
        refine ⟨?_, ?_, ?_, ?_⟩
        · rw [opCs_snoc, List.length_append, hpl]
          have e2 : opC9 ⟨kd, va, vc, o.d⟩ = [.int .i64 kd, .slice va D vc] := by rw [opC9, ← HDD.out]
          rw [e2]
          exact ho5
        · intro p hp
          rcases List.mem_append.1 hp with hp | hp
          · exact (HSC.out.rows p hp).kept hg5 (apartN (HSC.out.rows p hp) HSC.out.own hne)
          · simp at hp
            subst hp
            show w5.ownsRow w.heap.size 5 1 (.slice va o.d.length vc) o.d.length _
            rw [← HDD.out]
            exact HO2.out.kept hg5 (apartN HO2.out HSC.out.own hne)
        · rw [vals_take os k o HVO.out, vals, List.map_append]
          have := HSC.out.vs
          rw [vals] at this
          rw [this]
          simp [OpV.val, HKD.out]
        · exact HSC.out.bel.grown hg5 hsz (fun q hq => (HSC.out.own.lt q hq).1)
      replace hS : Below w.heap.size w w5 := HS5.out.bel
      clear ho5 hg5 hblk hown HSC HO2 TWO
      go_wp2
      refine ⟨rfl, hK _ _ hS ?_⟩
      clear hK K
      refine MixH.takes [false, false, false, false, false, false, false, false, false, false, false, false, false, false, false, true] 0 (by kernel_rfl) (by kernel_rfl) (by decide) (by kernel_rfl) hS (fun K hK => ?_)
      simp only [Mix.pick]
      repeat (go_big_quiet_step (fail))
      refine wpQuiet_nil (hK _ ?_)
      clear hK K
      refine MixH.done (by kernel_rfl) ?_
      go_wp2
      go_roundw
      case rel => exact ⟨k + 1, v5, _, rfl, by go_num, by omega, HS5⟩
      case measure => simp [intOf]; omega
    · have hkn : k = n := by omega
      subst hkn
      have hni : ¬ ((k : Int) < (k : Int)) := by omega
      have hpl : ps.length = k := HS.out.len (by rw [HN.out]; exact Nat.le_refl _)
      obtain ⟨lb, lc, rfl⟩ := owns_shape HS.out.own
      rw [hpl] at HS ⊢
      have HV : Hid (vals ps = vals os) := by show _ = _; rw [HS.out.vs, List.take_of_length_le (by simp [vals, HN.out])]
      have HP : Hid (ps.length = k) := hpl
      clear hlt hpl
      go_wp2
      go_ret
      exact ⟨lb, lc, rfl, HS.out.bel, ps, HP.out, HV.out, HS.out.opts HP.out (opts_256 HO.out), HS.out⟩
theorem OptsAt.ch {S : Nat → Prop} {w w' : World} {la : Option Addr} {os : List OpV} (h : OptsAt w la os) (c : Ch S w w') (h1 : ∀ x, la = some x → ¬ S x.block) (h2 : ∀ o ∈ os, ∀ x, o.a = some x → ¬ S x.block) : OptsAt w' la os := by
  rcases h with h | ⟨b, off, ha, hlt, hc⟩
  · exact .inl h
  · have hb := h1 _ ha
    refine .inr ⟨b, off, ha, Nat.lt_of_lt_of_le hlt c.size, fun i o ho => ?_⟩
    obtain ⟨q1, q2, q3⟩ := hc i o ho
    exact ⟨⟨c.seg q1.seg (fun x _ hx => h2 o (List.mem_of_getElem? ho) x hx), q1.h256, q1.le, q1.cap⟩, c.cell q2 hb, c.cell q3 hb⟩
theorem own_addr {w : World} {B : Nat} {e : TypeId} {s n m c : Nat} {a : Option Addr} {xs : List Value} (h : w.ownsRow B e s (.slice a n c) m xs) (x : Addr) (hx : a = some x) : B ≤ x.block := by
  rcases h.2 with ⟨h0, _⟩ | ⟨g, cap, cur, e1, hb, _⟩
  · simp only [Value.slice.injEq] at h0
    rw [hx] at h0
    simp at h0
  · simp only [Value.slice.injEq] at e1
    rw [hx] at e1
    have := Option.some.inj e1.1
    rw [this]
    exact hb

theorem uAt_set3 {w : World} {O : Nat} {u : U9} {da : Option Addr} {n c : Nat} (k : UAt w O u da n c) (db : Option Addr) (m dc : Nat) : UAt (w.setCell ⟨O, 3, none⟩ (.slice db m dc)) O u db m dc ∧ Ch (fun q => q = O) w (w.setCell ⟨O, 3, none⟩ (.slice db m dc)) := by
  refine ⟨?_, (Ch.refl (fun q => q = O) w).set _ _ rfl⟩
  unfold UAt at k ⊢
  rw [heap_setCell_same w O 3 _ _ _ k]
  rfl
theorem tAt_set7 {w : World} {O : Nat} {t : T9} {la : Option Addr} {ln lc : Nat} {da : Option Addr} {n c : Nat} (k : TAt w O t la ln lc da n c) (lb : Option Addr) (m dc : Nat) : TAt (w.setCell ⟨O, 7, none⟩ (.slice lb m dc)) O t lb m dc da n c ∧ Ch (fun q => q = O) w (w.setCell ⟨O, 7, none⟩ (.slice lb m dc)) := by
  refine ⟨?_, (Ch.refl (fun q => q = O) w).set _ _ rfl⟩
  unfold TAt at k ⊢
  rw [heap_setCell_same w O 7 _ _ _ k]
  rfl
theorem tAt_set8 {w : World} {O : Nat} {t : T9} {la : Option Addr} {ln lc : Nat} {da : Option Addr} {n c : Nat} (k : TAt w O t la ln lc da n c) (db : Option Addr) (m dc : Nat) : TAt (w.setCell ⟨O, 8, none⟩ (.slice db m dc)) O t la ln lc db m dc ∧ Ch (fun q => q = O) w (w.setCell ⟨O, 8, none⟩ (.slice db m dc)) := by
  refine ⟨?_, (Ch.refl (fun q => q = O) w).set _ _ rfl⟩
  unfold TAt at k ⊢
  rw [heap_setCell_same w O 8 _ _ _ k]
  rfl
set_option maxHeartbeats 3200000 in
set_option maxRecDepth 100000 in
theorem cloneU_any (u : U9) (da : Option Addr) (n c : Nat) (w : World) (k : DOk w u.d da n c) :
    Calls Tryd.prog 5 #[.agg (uC u da n c)] w fun e w' => ∃ db dc, e = .returned (.agg (uC u db n dc)) ∧ w'.ownsRow w.heap.size 5 1 (.slice db n dc) n ((toI u.d).map (Value.int .u8)) ∧ Below w.heap.size w w' := by
  obtain ⟨W, hW⟩ : ∃ W, W = w.alloc (.cells (uC u da n c) 27) := ⟨_, rfl⟩
  obtain ⟨O, hO⟩ : ∃ O, O = w.heap.size := ⟨_, rfl⟩
  have bel : Below w.heap.size w W := by rw [hW]; exact (Below.refl _ _).alloc (Nat.le_refl _) _
  have hr : UAt W O u da n c := by rw [hW, hO]; exact uAt_new _ _ _ _ _
  obtain ⟨W2, hW2⟩ : ∃ W2, W2 = W.alloc (.cells (uC u9z none 0 0) 27) := ⟨_, rfl⟩
  obtain ⟨O2, hO2⟩ : ∃ O2, O2 = W.heap.size := ⟨_, rfl⟩
  have hb2 : Below W.heap.size W W2 := by rw [hW2]; exact (Below.refl _ _).alloc (Nat.le_refl _) _
  have hz2 : UAt W2 O2 u9z none 0 0 := by rw [hW2, hO2]; exact uAt_new _ _ _ _ _
  have bel2 := bthen bel hb2
  have HOO : Hid (O < O2 ∧ w.heap.size ≤ O) := ⟨by rw [hO2]; exact hr.lt, by omega⟩
  have HR : Hid (UAt W2 O u da n c) := hr.below hb2
  have HZ : Hid (UAt W2 O2 u9z none 0 0) := hz2
  obtain ⟨M, hM⟩ : ∃ M, M = uC u da n c := ⟨_, rfl⟩
  have HW : Hid (w.alloc (.cells M 27) = W ∧ w.heap.size = O) := ⟨by rw [hM]; exact hW.symm, hO.symm⟩
  have HW2 : Hid (W.alloc (.cells #[.int .i64 0, .int .i64 0, .bool false, .slice none 0 0] 27) = W2 ∧ W.heap.size = O2) := ⟨hW2.symm, hO2.symm⟩
  have HO2 : Hid (O + 1 = O2) := by show _ = _; rw [hO2, hW, World.size_alloc, hO]
  have QC : Hid _ := copied_any da n c u.d W2 k.dl (k.seg.old bel2) (by have := k.sm; omega)
  have HB2 : Hid (Below w.heap.size w W2) := bel2
  have c3 := HR.out.c3
  rw [← hM]
  clear hW hO hW2 hO2 hr hb2 hz2 bel bel2 hM k
  go_enter Tryd.func5, Tryd.ntmps5
  go_upto_region 1 with fail
  rw [HW.out.1, HW.out.2, HO2.out, HW2.out.1]
  clear HW HW2 HO2
  go_wp2_with fail
  refine Calls.mono QC.out ?_
  rintro e w3 ⟨v, rfl, ho3, hb3⟩
  obtain ⟨db, dc, rfl⟩ := owns_shape ho3
  have HR3 : Hid (UAt w3 O u da n c) := HR.out.below hb3
  obtain ⟨h4, k4⟩ := uAt_set3 HR3.out db n dc
  have h3 := HR3.out.c3
  have f3 := HR3.out.fz 3
  have HZ4 : Hid (UAt (w3.setCell ⟨O, 3, none⟩ (.slice db n dc)) O2 u9z none 0 0) := (HZ.out.below hb3).ch k4 (fun q => by have e' : O2 = O := q; have := HOO.out.1; omega)
  have HO4 : Hid ((w3.setCell ⟨O, 3, none⟩ (.slice db n dc)).ownsRow w.heap.size 5 1 (.slice db n dc) n ((toI u.d).map (Value.int .u8))) := k4.owns (owns_le ho3 HB2.out.size) (fun g hg q => by
    have h1 := (ho3.lt g hg).1
    have h2 := HR.out.lt
    have e' : g = O := q
    omega)
  have HB4 : Hid (Below w.heap.size w (w3.setCell ⟨O, 3, none⟩ (.slice db n dc))) := (bthen HB2.out hb3).trans (k4.below (fun x q => by have e' : x = O := q; have := HOO.out.2; omega) (bthen HB2.out hb3).size)
  obtain ⟨w4, hw4⟩ : ∃ w4, w4 = w3.setCell ⟨O, 3, none⟩ (.slice db n dc) := ⟨_, rfl⟩
  rw [← hw4] at h4 HZ4 HO4 HB4
  have HW4 : Hid (w3.setCell ⟨O, 3, none⟩ (.slice db n dc) = w4) := hw4.symm
  have HR4 : Hid (UAt w4 O u db n dc) := h4
  clear h4 k4 hw4 ho3 hb3 HR HZ QC c3 HR3
  go_upto_region 2 with fail
  rw [HW4.out]
  clear HW4 h3 f3
  go_wp2_with (first | (refine wpList_load_u9 (.tmp 1) rfl O u db n dc rfl HR4.out rfl ?_) | (refine wpList_store_u9 (.tmp 2) (.tmp 7) rfl rfl O2 u9z none 0 0 u db n dc rfl rfl HZ4.out rfl ?_))
  intro wE hRE kE
  have HRE : Hid (UAt wE O2 u db n dc) := hRE
  have HOE : Hid (wE.ownsRow w.heap.size 5 1 (.slice db n dc) n ((toI u.d).map (Value.int .u8))) := kE.owns HO4.out (fun g hg q => by
    have e' : g = O2 := q
    subst e'
    obtain ⟨cc, hcc⟩ := kindN HO4.out g hg
    have := HZ4.out
    unfold UAt at this
    rw [this] at hcc
    simp at hcc)
  have HBE : Hid (Below w.heap.size w wE) := HB4.out.trans (kE.below (fun x q => by have e' : x = O2 := q; have := HOO.out; omega) HB4.out.size)
  clear hRE kE
  go_wp2
  (try simp only [Exit.inBlock, Exit.then])
  refine bodyPost_ret (v := .agg (uC u db n dc)) ?_ rfl ?_
  · exact results_cell_row rfl _ _ O2 27 _ _ _ rfl HRE.out Tryd.underlying27 rfl Tryd.sizeU9
  exact ⟨db, dc, rfl, HOE.out, HBE.out⟩
set_option maxHeartbeats 3200000 in
set_option maxRecDepth 100000 in
theorem cloneT_any (t : T9) (la : Option Addr) (ln lc : Nat) (os : List OpV) (da : Option Addr) (n c : Nat) (w : World) (hl : os.length = ln) (ho : OptsAt w la os) (hln : ln ≤ 1048576) (hsm : ∀ o ∈ os, o.d.length ≤ 1048576) (k : DOk w t.d da n c) :
    Calls Tryd.prog 6 #[.agg (tC t la ln lc da n c)] w fun e w' => ∃ lb mc db dc ps, e = .returned (.agg (tC t lb ln mc db n dc)) ∧ w'.ownsRow w.heap.size 5 1 (.slice db n dc) n ((toI t.d).map (Value.int .u8)) ∧ Below w.heap.size w w' ∧ ps.length = ln ∧ vals ps = vals os ∧ OptsAt w' lb ps ∧ (∀ z, lb = some z → w.heap.size ≤ z.block ∧ z.block < w'.heap.size) ∧ (∀ p ∈ ps, ∀ z, p.a = some z → w.heap.size ≤ z.block ∧ z.block < w'.heap.size) := by
  obtain ⟨W, hW⟩ : ∃ W, W = w.alloc (.cells (tC t la ln lc da n c) 30) := ⟨_, rfl⟩
  obtain ⟨O, hO⟩ : ∃ O, O = w.heap.size := ⟨_, rfl⟩
  have bel : Below w.heap.size w W := by rw [hW]; exact (Below.refl _ _).alloc (Nat.le_refl _) _
  have hr : TAt W O t la ln lc da n c := by rw [hW, hO]; exact tAt_new _ _ _ _ _ _ _ _
  obtain ⟨W2, hW2⟩ : ∃ W2, W2 = W.alloc (.cells (tC t9z none 0 0 none 0 0) 30) := ⟨_, rfl⟩
  obtain ⟨O2, hO2⟩ : ∃ O2, O2 = W.heap.size := ⟨_, rfl⟩
  have hb2 : Below W.heap.size W W2 := by rw [hW2]; exact (Below.refl _ _).alloc (Nat.le_refl _) _
  have hz2 : TAt W2 O2 t9z none 0 0 none 0 0 := by rw [hW2, hO2]; exact tAt_new _ _ _ _ _ _ _ _
  have bel2 := bthen bel hb2
  have HOO : Hid (O < O2 ∧ w.heap.size ≤ O) := ⟨by rw [hO2]; exact hr.lt, by omega⟩
  have HR : Hid (TAt W2 O t la ln lc da n c) := hr.below hb2
  have HZ : Hid (TAt W2 O2 t9z none 0 0 none 0 0) := hz2
  obtain ⟨M, hM⟩ : ∃ M, M = tC t la ln lc da n c := ⟨_, rfl⟩
  have HW : Hid (w.alloc (.cells M 30) = W ∧ w.heap.size = O) := ⟨by rw [hM]; exact hW.symm, hO.symm⟩
  have HW2 : Hid (W.alloc (.cells #[.int .i64 0, .int .i64 0, .int .i64 0, .int .i64 0, .int .i64 0, .int .i64 0, .int .i64 0, .slice none 0 0, .slice none 0 0] 30) = W2 ∧ W.heap.size = O2) := ⟨hW2.symm, hO2.symm⟩
  have HO2 : Hid (O + 1 = O2) := by show _ = _; rw [hO2, hW, World.size_alloc, hO]
  have QO : Hid _ := cloneOpts_any la ln lc os W2 hl (ho.old bel2) hln hsm
  have QC : Hid (∀ A, Below w.heap.size w A → _) := fun A hA => copied_any da n c t.d A k.dl (k.seg.old hA) (by have := k.sm; omega)
  have HB2 : Hid (Below w.heap.size w W2) := bel2
  have c7 := HR.out.c7
  rw [← hM]
  clear hW hO hW2 hO2 hr hb2 hz2 bel bel2 hM k hl ho hsm
  go_enter Tryd.func6, Tryd.ntmps6
  go_upto_region 1 with fail
  rw [HW.out.1, HW.out.2, HO2.out, HW2.out.1]
  clear HW HW2 HO2
  go_wp2_with fail
  refine Calls.mono QO.out ?_
  rintro e w3 ⟨lb, mc, rfl, hb3, ps, hpl, hpv, hpo, hco⟩
  have HP3 : Hid (CoS W2 os (.slice lb ln mc) ln ps w3 ∧ ps.length = ln ∧ vals ps = vals os ∧ OptsAt w3 lb ps) := ⟨hco, hpl, hpv, hpo⟩
  have HLB : Hid ((∀ z, lb = some z → W2.heap.size ≤ z.block) ∧ (∀ p ∈ ps, ∀ z, p.a = some z → W2.heap.size ≤ z.block)) := by
    refine ⟨fun z hz => (hco.own.lt z.block (by rw [hz]; rfl)).1, fun p hp z hz => ((hco.rows p hp).lt z.block (by rw [hz]; rfl)).1⟩
  have HLU : Hid ((∀ z, lb = some z → z.block < w3.heap.size) ∧ (∀ p ∈ ps, ∀ z, p.a = some z → z.block < w3.heap.size)) := by
    refine ⟨fun z hz => (hco.own.lt z.block (by rw [hz]; rfl)).2, fun p hp z hz => ((hco.rows p hp).lt z.block (by rw [hz]; rfl)).2⟩
  have HR3 : Hid (TAt w3 O t la ln lc da n c) := HR.out.below hb3
  obtain ⟨h4, k4⟩ := tAt_set7 HR3.out lb ln mc
  have h7 := HR3.out.c7
  have f7 := HR3.out.fz 7
  have hOW : O < W2.heap.size := HR.out.lt
  have HZ4 : Hid (TAt (w3.setCell ⟨O, 7, none⟩ (.slice lb ln mc)) O2 t9z none 0 0 none 0 0) := (HZ.out.below hb3).ch k4 (fun q => by have e' : O2 = O := q; have := HOO.out.1; omega)
  have HP4 : Hid (OptsAt (w3.setCell ⟨O, 7, none⟩ (.slice lb ln mc)) lb ps) := hpo.ch k4 (fun z hz q => by have e' : z.block = O := q; have := HLB.out.1 z hz; omega) (fun p hp z hz q => by have e' : z.block = O := q; have := HLB.out.2 p hp z hz; omega)
  have HB4 : Hid (Below w.heap.size w (w3.setCell ⟨O, 7, none⟩ (.slice lb ln mc))) := (bthen HB2.out hb3).trans (k4.below (fun x q => by have e' : x = O := q; have := HOO.out.2; omega) (bthen HB2.out hb3).size)
  obtain ⟨w4, hw4⟩ : ∃ w4, w4 = w3.setCell ⟨O, 7, none⟩ (.slice lb ln mc) := ⟨_, rfl⟩
  have HSa : Hid (w3.heap.size ≤ (w3.setCell ⟨O, 7, none⟩ (.slice lb ln mc)).heap.size) := k4.size
  rw [← hw4] at h4 HZ4 HP4 HB4 HSa
  have HW4 : Hid (w3.setCell ⟨O, 7, none⟩ (.slice lb ln mc) = w4) := hw4.symm
  have HR4 : Hid (TAt w4 O t lb ln mc da n c) := h4
  have HVV : Hid (ps.length = ln ∧ vals ps = vals os) := ⟨hpl, hpv⟩
  have HSW : Hid (w.heap.size ≤ W2.heap.size ∧ O2 < W2.heap.size) := ⟨HB2.out.size, HZ.out.lt⟩
  have c8 := HR4.out.c8
  clear h4 k4 hw4 hb3 HR HZ QO c7 HR3 HP3 hpl hpv hpo hco
  go_upto_region 2 with fail
  rw [HW4.out]
  clear HW4 h7 f7
  go_wp2_with fail
  refine Calls.mono (QC.out w4 HB4.out) ?_
  rintro e w5 ⟨v, rfl, ho5, hb5⟩
  obtain ⟨db, dc, rfl⟩ := owns_shape ho5
  have HR5 : Hid (TAt w5 O t lb ln mc da n c) := HR4.out.below hb5
  have HSb : Hid (w4.heap.size ≤ w5.heap.size) := hb5.size
  obtain ⟨h6, k6⟩ := tAt_set8 HR5.out db n dc
  have h8 := HR5.out.c8
  have f8 := HR5.out.fz 8
  have hO4 : O < w4.heap.size := HR4.out.lt
  have HZ6 : Hid (TAt (w5.setCell ⟨O, 8, none⟩ (.slice db n dc)) O2 t9z none 0 0 none 0 0) := (HZ4.out.below hb5).ch k6 (fun q => by have e' : O2 = O := q; have := HOO.out.1; omega)
  have HP6 : Hid (OptsAt (w5.setCell ⟨O, 8, none⟩ (.slice db n dc)) lb ps) := (HP4.out.old hb5).ch k6 (fun z hz q => by have e' : z.block = O := q; have := HLB.out.1 z hz; omega) (fun p hp z hz q => by have e' : z.block = O := q; have := HLB.out.2 p hp z hz; omega)
  have HO6 : Hid ((w5.setCell ⟨O, 8, none⟩ (.slice db n dc)).ownsRow w.heap.size 5 1 (.slice db n dc) n ((toI t.d).map (Value.int .u8))) := k6.owns (owns_le ho5 HB4.out.size) (fun g hg q => by
    have h1 := (ho5.lt g hg).1
    have e' : g = O := q
    omega)
  have HB6 : Hid (Below w.heap.size w (w5.setCell ⟨O, 8, none⟩ (.slice db n dc))) := (bthen HB4.out hb5).trans (k6.below (fun x q => by have e' : x = O := q; have := HOO.out.2; omega) (bthen HB4.out hb5).size)
  obtain ⟨w6, hw6⟩ : ∃ w6, w6 = w5.setCell ⟨O, 8, none⟩ (.slice db n dc) := ⟨_, rfl⟩
  have HSc : Hid (w5.heap.size ≤ (w5.setCell ⟨O, 8, none⟩ (.slice db n dc)).heap.size) := k6.size
  rw [← hw6] at h6 HZ6 HP6 HO6 HB6 HSc
  have HW6 : Hid (w5.setCell ⟨O, 8, none⟩ (.slice db n dc) = w6) := hw6.symm
  have HR6 : Hid (TAt w6 O t lb ln mc db n dc) := h6
  clear h6 k6 hw6 ho5 hb5 HR4 HZ4 QC c8 HR5 HP4 HB4 hO4
  go_upto_region 3 with fail
  rw [HW6.out]
  clear HW6 h8 f8
  go_wp2_with (first | (refine wpList_load_t9 (.tmp 1) rfl O t lb ln mc db n dc rfl HR6.out rfl ?_) | (refine wpList_store_t9 (.tmp 2) (.tmp 11) rfl rfl O2 t9z none 0 0 none 0 0 t lb ln mc db n dc rfl rfl HZ6.out rfl ?_))
  intro wE hRE kE
  have HRE : Hid (TAt wE O2 t lb ln mc db n dc) := hRE
  have HOE : Hid (wE.ownsRow w.heap.size 5 1 (.slice db n dc) n ((toI t.d).map (Value.int .u8))) := kE.owns HO6.out (fun g hg q => by
    have e' : g = O2 := q
    subst e'
    obtain ⟨cc, hcc⟩ := kindN HO6.out g hg
    have := HZ6.out
    unfold TAt at this
    rw [this] at hcc
    simp at hcc)
  have HPE : Hid (OptsAt wE lb ps) := HP6.out.ch kE (fun z hz q => by have e' : z.block = O2 := q; have := HLB.out.1 z hz; have := HSW.out; omega) (fun p hp z hz q => by have e' : z.block = O2 := q; have := HLB.out.2 p hp z hz; have := HSW.out; omega)
  have HBE : Hid (Below w.heap.size w wE) := HB6.out.trans (kE.below (fun x q => by have e' : x = O2 := q; have := HOO.out; omega) HB6.out.size)
  have HSZ : Hid (w3.heap.size ≤ wE.heap.size) := by have h1 := HSa.out; have h2 := HSb.out; have h3 := HSc.out; have h4 := kE.size; show _ ≤ _; omega
  clear hRE kE
  go_wp2
  (try simp only [Exit.inBlock, Exit.then])
  refine bodyPost_ret (v := .agg (tC t lb ln mc db n dc)) ?_ rfl ?_
  · exact results_cell_row rfl _ _ O2 30 _ _ _ rfl HRE.out Tryd.underlying30 rfl Tryd.sizeT9
  exact ⟨lb, mc, db, dc, ps, rfl, HOE.out, HBE.out, HVV.out.1, HVV.out.2, HPE.out, fun z hz => ⟨Nat.le_trans HSW.out.1 (HLB.out.1 z hz), Nat.lt_of_lt_of_le (HLU.out.1 z hz) HSZ.out⟩, fun p hp z hz => ⟨Nat.le_trans HSW.out.1 (HLB.out.2 p hp z hz), Nat.lt_of_lt_of_le (HLU.out.2 p hp z hz) HSZ.out⟩⟩
end Go.Proofs.YtldallgafpmcjaaDoor
