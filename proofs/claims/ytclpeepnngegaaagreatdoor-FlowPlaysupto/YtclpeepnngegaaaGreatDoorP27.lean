/-
  RFp RFc: lemmas of the proof of FlowPlays, and walks through the functions that it calls.
-/
import Derived.Test.YtclpeepnngegaaaGreatDoorP00
import Derived.Test.YtclpeepnngegaaaGreatDoorP15
import Derived.Test.YtclpeepnngegaaaGreatDoorP26
namespace Go.Proofs.YtclpeepnngegaaaGreatDoor
open Go.RowKit Go.Maps
theorem by16_inj {x y : Nat → Nat} (hx : ∀ i, i < 16 → x i < 256) (hy : ∀ i, i < 16 → y i < 256) (h : by16 x = by16 y) : same16 x y = true := by
 rw [same16_iff]
 intro i hi
 have h1 : (by16 x)[i]? = (by16 y)[i]? := by rw [h]
 simp [by16, Lib.bytesOf, toI, ipL, hi] at h1
 have h2 := congrArg UInt8.toNat h1
 have h3 := hx i hi
 have h4 := hy i hi
 simp at h2
 omega
theorem or5_zero {a b c d e : Int} (h : or5 a b c d e = 0) : a = 0 ∧ b = 0 ∧ c = 0 ∧ d = 0 ∧ e = 0 := by
 unfold or5 at h
 repeat' split at h
 all_goals omega
theorem ciV_zero {x y : Int} (h : ciV x y = 0) : x = y := by
 unfold ciV at h
 split at h
 · omega
 · split at h <;> omega
theorem ipV_zero {V : Int} {x : Nat → Nat} {U : Int} {y : Nat → Nat} (hx : ∀ i, i < 16 → x i < 256) (hy : ∀ i, i < 16 → y i < 256) (h : ipV V x U y = 0) : V = U ∧ same16 x y = true := by
 unfold ipV at h
 split at h
 · rename_i h0
   refine ⟨ciV_zero h0, ?_⟩
   rcases cb_tri x y with ⟨_, _, e⟩ | ⟨_, _, e⟩ | ⟨e, _⟩
   · omega
   · omega
   · exact by16_inj hx hy e
 · omega
theorem ordT_zero {a b : TU} (ha : a.Wf) (hb : b.Wf) (h : ordT a b = 0) : eqP a b = true := by
 obtain ⟨h1, h2, h3, h4, h5⟩ := or5_zero h
 obtain ⟨e1, e2⟩ := ipV_zero ha.s hb.s h2
 obtain ⟨e3, e4⟩ := ipV_zero ha.d hb.d h4
 have e5 := ciV_zero h1
 have e6 := ciV_zero h3
 have e7 := ciV_zero h5
 unfold eqP
 rw [e1, e2, e3, e4, e5, e6, e7]
 simp
theorem fn_uniq : ∀ {E S : List FN}, S.Perm E → S.Pairwise (fun a b => 0 ≤ ordV b a) → E.Pairwise (fun a b => ordV a b < 0) → S = E
 | [], S, h, _, _ => List.Perm.eq_nil h
 | e :: E, S, h, hs, he => by
  cases S with
  | nil => have := h.length_eq; simp at this
  | cons s S =>
   obtain ⟨e1, e2⟩ := List.pairwise_cons.1 he
   obtain ⟨s1, s2⟩ := List.pairwise_cons.1 hs
   have hse : s = e := by
    rcases List.mem_cons.1 (h.mem_iff.1 (by simp : s ∈ s :: S)) with h1 | h1
    · exact h1
    · rcases List.mem_cons.1 (h.mem_iff.2 (by simp : e ∈ e :: E)) with h2 | h2
      · exact h2.symm
      · have a1 := e1 s h1
        have a2 := s1 e h2
        omega
   subst hse
   rw [fn_uniq (List.Perm.cons_inv h) s2 e2]
def OkP (c : CF) (f : FN) : Prop := (f.x.sV = 4 ∨ f.x.sV = 6) ∧ (f.x.sV = 4 → c.lo ≤ f.po ∧ f.po ≤ c.hi) ∧ (f.x.sV = 6 → f.po = f.x.sp)
theorem OkP.same {c : CF} {f g : FN} (h : OkP c f) (hx : g.x = f.x) (hp : g.po = f.po) : OkP c g := by unfold OkP at *; rw [hx, hp]; exact h
theorem OkP.turnE {c : CF} {E : List FV} {e : FV} {v : Int} (h : ∀ a ∈ E, OkP c a.n) (he : e ∈ E) : ∀ a ∈ Go.Proofs.YtclpeepnngegaaaGreatDoor.turnE c E e v, OkP c a.n := fun a ha => by
 rcases turn_in ha with h1 | ⟨rfl, _⟩
 · exact h a h1
 · exact (h e he).same rfl rfl
theorem OkP.new {c : CF} {E : List FV} {x : TU} {po st le : Int} (hc : CfOk c) (hk : ckE x = 0) (hp : fpO c E x = some po) : OkP c ⟨x, po, st, le⟩ := by
 have ht := ckE_tp hk
 have h46 : x.sV = 4 ∨ x.sV = 6 := by
  cases h4 : x.sV == 4 with
  | true => exact .inl (by simpa using h4)
  | false => exact .inr (by simpa using tpB_46 ht h4)
 unfold fpO at hp
 refine ⟨h46, fun h4 => ?_, fun h6 => ?_⟩
 · have h4' : x.sV = 4 := h4
   have e6 : (x.sV == 6) = false := by rw [h4']; rfl
   rw [e6, Bool.false_or] at hp
   split at hp
   · rename_i hb
     obtain rfl := Option.some.inj hp
     simp only [Bool.and_eq_true, inR, decide_eq_true_eq] at hb
     exact hb.1
   · have h1 := frF_some hp
     have := hc.hi
     show c.lo ≤ po ∧ po ≤ c.hi
     omega
 · have h6' : x.sV = 6 := h6
   have e6 : (x.sV == 6) = true := by rw [h6']; rfl
   rw [e6, Bool.true_or, if_pos rfl] at hp
   exact (Option.some.inj hp).symm
structure RL2 (E : List FV) (L : List FN) : Prop where
  pm : L.Perm (E.map FV.n)
  so : L.Pairwise (fun a b => ordV a b < 0)
def wo (L : List FN) (x : TU) : List FN := L.filter (fun f => !(eqP f.x x))
def ins (L : List FN) (f : FN) : List FN := L.takeWhile (fun g => decide (ordV g f < 0)) ++ f :: L.dropWhile (fun g => decide (ordV g f < 0))
theorem ins_perm (L : List FN) (f : FN) : (ins L f).Perm (f :: L) := by
 unfold ins
 have h : (L.takeWhile (fun g => decide (ordV g f < 0)) ++ L.dropWhile (fun g => decide (ordV g f < 0))) = L := List.takeWhile_append_dropWhile
 exact (List.perm_middle).trans (by rw [h])
theorem ins_sorted {f : FN} : ∀ {L : List FN}, L.Pairwise (fun a b => ordV a b < 0) → (∀ g ∈ L, ordV g f ≠ 0) → (ins L f).Pairwise (fun a b => ordV a b < 0)
 | [], _, _ => by unfold ins; simp
 | g :: L, h, hn => by
  obtain ⟨h1, h2⟩ := List.pairwise_cons.1 h
  unfold ins
  by_cases hg : ordV g f < 0
  · have ih := ins_sorted h2 (fun a ha => hn a (List.mem_cons_of_mem _ ha))
    rw [List.takeWhile_cons, List.dropWhile_cons, if_pos (by simpa using hg), if_pos (by simpa using hg), List.cons_append]
    refine List.pairwise_cons.2 ⟨fun a ha => ?_, ih⟩
    have ha' := (ins_perm L f).mem_iff.1 ha
    rcases List.mem_cons.1 ha' with rfl | ha'
    · exact hg
    · exact h1 a ha'
  · rw [List.takeWhile_cons, List.dropWhile_cons, if_neg (by simpa using hg), if_neg (by simpa using hg), List.nil_append]
    have hfg : ordV f g < 0 := by
     have h3 := ordV_cmp.anti g f
     have h4 := hn g List.mem_cons_self
     omega
    refine List.pairwise_cons.2 ⟨fun a ha => ?_, h⟩
    rcases List.mem_cons.1 ha with rfl | ha
    · exact hfg
    · have h3 := h1 a ha
      have h4 := ordV_cmp.tran f g a (by omega) (by omega)
      have h5 : ordV f a ≠ 0 := fun e => by
       have t1 := ordV_cmp.anti f a
       have t3 := ordV_cmp.anti f g
       have t2 := ordV_cmp.tran g a f (by omega) (by omega)
       omega
      omega
theorem RL2.wf {E : List FV} {L : List FN} (h : RL2 E L) (hw : ∀ e ∈ E, e.n.x.Wf) : ∀ f ∈ L, f.x.Wf := fun f hf => by
 obtain ⟨e, he, rfl⟩ := List.mem_map.1 (h.pm.mem_iff.1 hf)
 exact hw e he
theorem wo_perm {E : List FV} {L : List FN} (h : RL2 E L) (x : TU) : (wo L x).Perm ((delF E x).map FV.n) := by
 unfold wo delF
 refine (h.pm.filter _).trans ?_
 rw [List.filter_map]
 exact List.Perm.refl _
theorem RL2.del {E : List FV} {L : List FN} (h : RL2 E L) (x : TU) : RL2 (delF E x) (wo L x) := ⟨wo_perm h x, h.so.filter _⟩
theorem upd_perm {E : List FV} {e e' : FV} (dj : Dj E) (he : e ∈ E) : (updF E e.n.x e').Perm (e' :: delF E e.n.x) := by
 induction E with
 | nil => cases he
 | cons a E ih =>
  obtain ⟨d1, d2⟩ := List.pairwise_cons.1 dj
  unfold updF delF
  rw [List.map_cons, List.filter_cons]
  rcases List.mem_cons.1 he with rfl | he
  · have h1 : eqP e.n.x e.n.x = true := eqP_refl _
    rw [h1, if_pos rfl]
    have h2 : E.map (fun a => if eqP a.n.x e.n.x then e' else a) = E := by
     conv => rhs; rw [← List.map_id E]
     apply List.map_congr_left
     intro a ha
     rw [eqP_comm, d1 a ha]
     rfl
    have h3 : E.filter (fun a => !(eqP a.n.x e.n.x)) = E := List.filter_eq_self.2 (fun a ha => by rw [eqP_comm, d1 a ha]; rfl)
    rw [h2, h3]
    exact List.Perm.refl _
  · have h1 : eqP a.n.x e.n.x = false := d1 e he
    rw [h1, if_neg (by decide)]
    have h2 := ih d2 he
    unfold updF delF at h2
    exact (List.Perm.cons a h2).trans (List.Perm.swap _ _ _)
theorem ord_ne {f g : FN} (hf : f.x.Wf) (hg : g.x.Wf) (h : eqP f.x g.x = false) : ordV f g ≠ 0 := fun e => by
 have := ordT_zero hf hg e
 rw [this] at h
 cases h
theorem RL2.upd {E : List FV} {L : List FN} (h : RL2 E L) (dj : Dj E) (hw : ∀ e ∈ E, e.n.x.Wf) {e e' : FV} (he : e ∈ E) (hx : e'.n.x = e.n.x) : RL2 (updF E e.n.x e') (ins (wo L e.n.x) e'.n) := by
 refine ⟨(ins_perm _ _).trans ?_, ins_sorted (h.so.filter _) (fun g hg => ?_)⟩
 · exact (List.Perm.cons _ (wo_perm h e.n.x)).trans ((upd_perm dj he).map FV.n).symm
 · have hg' := List.mem_filter.1 hg
   refine ord_ne (h.wf hw g hg'.1) (by rw [hx]; exact hw e he) ?_
   rw [hx]
   simpa using hg'.2
theorem wo_none {E : List FV} {L : List FN} (h : RL2 E L) {x : TU} (hn : fF E x = none) : wo L x = L := by
 unfold wo
 refine List.filter_eq_self.2 (fun f hf => ?_)
 obtain ⟨e, he, rfl⟩ := List.mem_map.1 (h.pm.mem_iff.1 hf)
 rw [fF_none hn e he]
 rfl
theorem RL2.new {E : List FV} {L : List FN} (h : RL2 E L) (hw : ∀ e ∈ E, e.n.x.Wf) {e : FV} (hx : e.n.x.Wf) (hn : fF E e.n.x = none) : RL2 (E ++ [e]) (ins (wo L e.n.x) e.n) := by
 rw [wo_none h hn]
 refine ⟨(ins_perm _ _).trans ?_, ins_sorted h.so (fun g hg => ?_)⟩
 · rw [List.map_append]
   exact (List.Perm.cons _ h.pm).trans (List.perm_append_singleton _ _).symm
 · obtain ⟨a, ha, rfl⟩ := List.mem_map.1 (h.pm.mem_iff.1 hg)
   exact ord_ne (hw a ha) hx (fF_none hn a ha)
def tkR (f : FN) : Option FN := if 0 < f.le - 1 then some { f with le := f.le - 1 } else none
theorem RL2.tick {E : List FV} {L : List FN} (h : RL2 E L) (hle : ∀ e ∈ E, LeOk e) : RL2 (E.filterMap tk1) (L.filterMap tkR) ∧ (L.length - (L.filterMap tkR).length = endN E) := by
 have hf : ∀ e ∈ E, (tk1 e).map FV.n = tkR e.n := fun e he => by
  have h1 := (hle e he).lo
  unfold tk1 tkR
  by_cases h2 : e.n.le - 1 = 0
  · rw [if_pos (by simpa using h2), if_neg (by omega)]; rfl
  · rw [if_neg (by simpa using h2), if_pos (by omega)]; rfl
 have hm : (E.filterMap tk1).map FV.n = (E.map FV.n).filterMap tkR := by
  rw [List.map_filterMap, List.filterMap_map]
  exact fm_congr hf
 refine ⟨⟨(h.pm.filterMap tkR).trans (by rw [hm]), ?_⟩, ?_⟩
 · have hx : ∀ f g : FN, tkR f = some g → g.x = f.x := fun f g hg => by
    unfold tkR at hg
    split at hg
    · obtain rfl := Option.some.inj hg; rfl
    · cases hg
   refine (List.pairwise_filterMap).2 (h.so.imp ?_)
   intro a b hab a' ha b' hb
   unfold ordV at hab ⊢
   rw [hx a a' ha, hx b b' hb]
   exact hab
 · have e1 : L.length = E.length := by rw [h.pm.length_eq, List.length_map]
   have e2 : (L.filterMap tkR).length = (E.filterMap tk1).length := by
    rw [((h.pm.filterMap tkR).trans (by rw [← hm])).length_eq, List.length_map]
   have e3 : ∀ F : List FV, (∀ e ∈ F, LeOk e) → (F.filterMap tk1).length + endN F = F.length := by
    intro F
    induction F with
    | nil => intro _; rfl
    | cons a F ih =>
     intro hF
     have := ih (fun e he => hF e (List.mem_cons_of_mem _ he))
     unfold endN at this ⊢
     rw [List.filterMap_cons, List.filter_cons]
     unfold tk1
     by_cases h2 : (a.n.le - 1 == 0) = true
     · rw [h2, if_pos rfl, if_pos rfl, List.length_cons, List.length_cons]
       dsimp only
       unfold tk1 at this
       omega
     · rw [if_neg h2, if_neg h2]
       dsimp only
       rw [List.length_cons, List.length_cons]
       unfold tk1 at this
       omega
   have := e3 E hle
   omega
theorem RL2.find {E : List FV} {L : List FN} (h : RL2 E L) (dj : Dj E) (x : TU) : L.find? (fun f => eqP f.x x) = (fF E x).map FV.n := by
 cases hf : fF E x with
 | none =>
  rw [Option.map_none, List.find?_eq_none]
  intro f hm
  obtain ⟨e, he, rfl⟩ := List.mem_map.1 (h.pm.mem_iff.1 hm)
  rw [fF_none hf e he]
  decide
 | some e =>
  obtain ⟨he, hx⟩ := fF_some hf
  rw [Option.map_some]
  cases hl : L.find? (fun f => eqP f.x x) with
  | none =>
   have h1 := List.find?_eq_none.1 hl e.n (h.pm.mem_iff.2 (List.mem_map_of_mem he))
   exact absurd hx h1
  | some f =>
   have h1 := List.find?_some hl
   obtain ⟨a, ha, rfl⟩ := List.mem_map.1 (h.pm.mem_iff.1 (List.mem_of_find?_eq_some hl))
   have h2 := fF_mem dj ha h1
   rw [hf] at h2
   obtain rfl := Option.some.inj h2
   rfl
theorem RL2.await {c : CF} {E : List FV} {L : List FN} (h : RL2 E L) (hc : CfOk c) (dj : Dj E) (djq : (E.filter isF).Pairwise (fun a b => eqQ a.kq.p b.kq.p = false)) (hB : ∀ e ∈ E, OkP c e.n) {x : TU} (hx : x.dV = 4 ∨ x.dV = 6) : L.find? (fun f => eqP (ouT c f).rev x) = (awO c E x).map FV.n := by
 -- at most one flow goes out so
 have key : ∀ e ∈ E, eqP (ouT c e.n).rev x = true → awO c E x = some e := fun e he hq => by
  have hq' : eqP (ouT c e.n) x.rev = true := by
   unfold eqP at hq ⊢
   simp only [Bool.and_eq_true, beq_iff_eq] at hq
   obtain ⟨⟨⟨⟨e1, e2, e3⟩, e4, e5⟩, e6⟩, e7⟩ := hq
   have f1 : (ouT c e.n).pr = x.pr := e1
   have f2 : (ouT c e.n).dV = x.sV := e2
   have f3 : same16 (ouT c e.n).d x.s = true := e3
   have f4 : (ouT c e.n).sV = x.dV := e4
   have f5 : same16 (ouT c e.n).s x.d = true := e5
   have f6 : (ouT c e.n).dp = x.sp := e6
   have f7 : (ouT c e.n).sp = x.dp := e7
   show ((ouT c e.n).pr == x.pr && ((ouT c e.n).sV == x.dV && same16 (ouT c e.n).s x.d) && ((ouT c e.n).dV == x.sV && same16 (ouT c e.n).d x.s) && (ouT c e.n).sp == x.dp && (ouT c e.n).dp == x.sp) = true
   rw [f1, f2, f3, f4, f5, f6, f7]
   simp
  have hqp := hq'
  unfold eqP at hqp
  simp only [Bool.and_eq_true, beq_iff_eq] at hqp
  obtain ⟨⟨⟨⟨g1, g2, _⟩, _⟩, g5⟩, _⟩ := hqp
  unfold awO
  rcases (hB e he).1 with h4 | h6
  · have h4' : (e.n.x.sV == 4) = true := by rw [h4]; rfl
    have ho : ouT c e.n = { e.n.x with sV := c.oV, s := c.o, sp := e.n.po } := by unfold ouT; rw [h4', if_pos rfl]
    have hd : x.dV = 4 := by have h1 : (ouT c e.n).sV = x.dV := g2; rw [ho] at h1; have h2 : c.oV = x.dV := h1; rw [← h2, hc.oV]
    have hd6 : (x.dV == 6) = false := by rw [hd]; rfl
    rw [hd6, if_neg (by decide)]
    have h1 : (ouT c e.n).pr = x.pr := g1
    have h2 : (ouT c e.n).sp = x.dp := g5
    rw [ho] at h1 h2
    have h3 : fQ E ⟨x.pr, x.dp⟩ = some e := fQ_mem djq he h4' (by unfold eqQ; show (e.n.x.pr == x.pr && e.n.po == x.dp) = true; have a1 : e.n.x.pr = x.pr := h1; have a2 : e.n.po = x.dp := h2; rw [a1, a2]; simp)
    rw [h3, Option.bind_some, hq', if_pos rfl]
  · have h6' : (e.n.x.sV == 4) = false := by rw [h6]; rfl
    have ho : ouT c e.n = e.n.x := by unfold ouT; rw [h6', if_neg (by decide)]
    have hd : x.dV = 6 := by have h1 : (ouT c e.n).sV = x.dV := g2; rw [ho] at h1; rw [← h1, h6]
    have hd6 : (x.dV == 6) = true := by rw [hd]; rfl
    rw [hd6, if_pos rfl]
    rw [ho] at hq'
    exact fF_mem dj he hq'
 have back : ∀ e, awO c E x = some e → e ∈ E ∧ eqP (ouT c e.n).rev x = true := fun e hw => by
  have he := awO_mem hw
  refine ⟨he, ?_⟩
  have hq' : eqP (ouT c e.n) x.rev = true := by
   unfold awO at hw
   rcases hx with h4 | h6
   · have hd6 : (x.dV == 6) = false := by rw [h4]; rfl
     rw [hd6, if_neg (by decide)] at hw
     obtain ⟨a, ha, hb⟩ := Option.bind_eq_some_iff.1 hw
     split at hb
     · rename_i hq
       obtain rfl := Option.some.inj hb
       exact hq
     · cases hb
   · have hd6 : (x.dV == 6) = true := by rw [h6]; rfl
     rw [hd6, if_pos rfl] at hw
     have h1 := (fF_some hw).2
     have hs : e.n.x.sV = 6 := by
      have h2 := h1
      unfold eqP at h2
      simp only [Bool.and_eq_true, beq_iff_eq] at h2
      have h3 : e.n.x.sV = x.dV := h2.1.1.1.2.1
      rw [h3, h6]
     have h6' : (e.n.x.sV == 4) = false := by rw [hs]; rfl
     have ho : ouT c e.n = e.n.x := by unfold ouT; rw [h6', if_neg (by decide)]
     rw [ho]
     exact h1
  unfold eqP at hq' ⊢
  simp only [Bool.and_eq_true, beq_iff_eq] at hq'
  obtain ⟨⟨⟨⟨e1, e2, e3⟩, e4, e5⟩, e6⟩, e7⟩ := hq'
  have f1 : (ouT c e.n).pr = x.pr := e1
  have f2 : (ouT c e.n).sV = x.dV := e2
  have f3 : same16 (ouT c e.n).s x.d = true := e3
  have f4 : (ouT c e.n).dV = x.sV := e4
  have f5 : same16 (ouT c e.n).d x.s = true := e5
  have f6 : (ouT c e.n).sp = x.dp := e6
  have f7 : (ouT c e.n).dp = x.sp := e7
  show ((ouT c e.n).pr == x.pr && ((ouT c e.n).dV == x.sV && same16 (ouT c e.n).d x.s) && ((ouT c e.n).sV == x.dV && same16 (ouT c e.n).s x.d) && (ouT c e.n).dp == x.sp && (ouT c e.n).sp == x.dp) = true
  rw [f1, f2, f3, f4, f5, f6, f7]
  simp
 cases hw : awO c E x with
 | none =>
  rw [Option.map_none, List.find?_eq_none]
  intro f hm
  obtain ⟨e, he, rfl⟩ := List.mem_map.1 (h.pm.mem_iff.1 hm)
  intro hq
  have := key e he hq
  rw [hw] at this
  cases this
 | some e =>
  obtain ⟨he, hq⟩ := back e hw
  rw [Option.map_some]
  cases hl : L.find? (fun f => eqP (ouT c f).rev x) with
  | none => exact absurd hq (List.find?_eq_none.1 hl e.n (h.pm.mem_iff.2 (List.mem_map_of_mem he)))
  | some f =>
   have h1 := List.find?_some hl
   obtain ⟨a, ha, rfl⟩ := List.mem_map.1 (h.pm.mem_iff.1 (List.mem_of_find?_eq_some hl))
   have h2 := key a ha h1
   rw [hw] at h2
   obtain rfl := Option.some.inj h2
   rfl
def tkn2 (L : List FN) (pr po : Int) : Bool := L.any (fun f => f.x.pr == pr && (f.x.sV == 4 && f.po == po))
theorem RL2.taken {E : List FV} {L : List FN} (h : RL2 E L) (pr po : Int) : tkn2 L pr po = !(frB E pr po) := by
 unfold tkn2 frB
 have h1 : L.any (fun f => f.x.pr == pr && (f.x.sV == 4 && f.po == po)) = (E.map FV.n).any (fun f => f.x.pr == pr && (f.x.sV == 4 && f.po == po)) := by
  rw [Bool.eq_iff_iff, List.any_eq_true, List.any_eq_true]
  constructor
  · rintro ⟨f, hf, hq⟩; exact ⟨f, h.pm.mem_iff.1 hf, hq⟩
  · rintro ⟨f, hf, hq⟩; exact ⟨f, h.pm.mem_iff.2 hf, hq⟩
 rw [h1]
 cases hq : fQ E ⟨pr, po⟩ with
 | none =>
  show _ = false
  rw [List.any_eq_false]
  intro f hf
  obtain ⟨e, he, rfl⟩ := List.mem_map.1 hf
  unfold fQ at hq
  intro hb
  simp only [Bool.and_eq_true] at hb
  have h2 := List.find?_eq_none.1 hq e (List.mem_filter.2 ⟨he, hb.2.1⟩)
  apply h2
  unfold eqQ
  show (e.n.x.pr == pr && e.n.po == po) = true
  rw [hb.1, hb.2.2]
  rfl
 | some e =>
  show _ = true
  obtain ⟨he, hf, hb⟩ := fQ_some hq
  rw [List.any_eq_true]
  refine ⟨e.n, List.mem_map_of_mem he, ?_⟩
  unfold eqQ at hb
  simp only [Bool.and_eq_true] at hb
  have b1 : (e.n.x.pr == pr) = true := hb.1
  have b2 : (e.n.po == po) = true := hb.2
  have b3 : (e.n.x.sV == 4) = true := hf
  simp only [b1, b2, b3, Bool.and_self]
def prF (L : List FN) (pr : Int) : Int → Nat → Int
 | _, 0 => 0
 | lo, n + 1 => if tkn2 L pr lo then prF L pr (lo + 1) n else lo
def prt (c : CF) (L : List FN) (x : TU) : Int := if x.sV == 6 then x.sp else if inR x.sp c.lo c.hi && !(tkn2 L x.pr x.sp) then x.sp else prF L x.pr c.lo (c.hi - c.lo + 1).toNat
theorem RL2.prF {E : List FV} {L : List FN} (h : RL2 E L) (pr : Int) : ∀ (n : Nat) (lo : Int), Go.Proofs.YtclpeepnngegaaaGreatDoor.prF L pr lo n = (frF E pr lo n).getD 0
 | 0, lo => rfl
 | n + 1, lo => by
  unfold Go.Proofs.YtclpeepnngegaaaGreatDoor.prF frF
  rw [h.taken]
  cases hb : frB E pr lo with
  | true => rfl
  | false =>
   show Go.Proofs.YtclpeepnngegaaaGreatDoor.prF L pr (lo + 1) n = _
   rw [h.prF pr n (lo + 1)]
   rfl
theorem RL2.port {c : CF} {E : List FV} {L : List FN} (h : RL2 E L) (x : TU) : prt c L x = (fpO c E x).getD 0 := by
 unfold prt fpO
 cases h6 : x.sV == 6 with
 | true => rfl
 | false =>
  rw [if_neg (by decide), Bool.false_or, h.taken, Bool.not_not]
  cases hb : (inR x.sp c.lo c.hi && frB E x.pr x.sp) with
  | true => rfl
  | false =>
   rw [if_neg (by decide), if_neg (by decide)]
   exact h.prF _ _ _
end Go.Proofs.YtclpeepnngegaaaGreatDoor
namespace Go.Proofs.YtclpeepnngegaaaGreatDoor
open Go.RowKit Go.Maps
theorem yields_u8x {ops : Array Oper} {o : Oper} {a : Act} {S : World → Prop} (x : Operand) (ho : o.op = .load 5 x) (p : Addr) (u : Value) (hx : a.eval x = .pointer (some p)) (hw : Region.wanted o (yielded ops a.tmps) = true) (hS : ∀ w, S w → w.cell? p = some u) : YieldsIf Tryz.prog ops S o u a := by
 refine .inl ⟨hw, fun w hb => ?_⟩
 have hc := hS w hb
 have hu := Tryz.underlying5
 obtain ⟨dst, op, type, pos, after, guard⟩ := o
 simp only at ho
 subst ho
 simp only [execOp, Sem.run_bind, Sem.run_pure]
 rw [hx]
 go_simp
theorem ipr_byte {w : World} {O : Nat} {V : Int} {x : Nat → Nat} (h : IprAt w O V x) {i : Nat} (hi : i < 16) : w.cell? ⟨O, 1 + i, none⟩ = some (.int .u8 (x i : Int)) := by
 rw [h.cell]
 have : i = 0 ∨ i = 1 ∨ i = 2 ∨ i = 3 ∨ i = 4 ∨ i = 5 ∨ i = 6 ∨ i = 7 ∨ i = 8 ∨ i = 9 ∨ i = 10 ∨ i = 11 ∨ i = 12 ∨ i = 13 ∨ i = 14 ∨ i = 15 := by omega
 clear hi
 rcases this with rfl | rfl | rfl | rfl | rfl | rfl | rfl | rfl | rfl | rfl | rfl | rfl | rfl | rfl | rfl | rfl <;> rfl
def lsX (x y : Nat → Nat) : Nat → Nat → Bool
 | 0, _ => false
 | f + 1, i => if x i = y i then lsX x y f (i + 1) else decide (x i < y i)
theorem by16_drop {x : Nat → Nat} {i : Nat} (hi : i < 16) : (by16 x).drop i = UInt8.ofNat (x i) :: (by16 x).drop (i + 1) := by
 have hl : i < (by16 x).length := by rw [by16_len]; exact hi
 rw [List.drop_eq_getElem_cons hl]
 congr 1
 simp [by16, Lib.bytesOf, toI, ipL]
theorem lsX_cmp {x y : Nat → Nat} (hx : ∀ i, i < 16 → x i < 256) (hy : ∀ i, i < 16 → y i < 256) : ∀ (f i : Nat), i + f = 16 → (Lib.compareBytes ((by16 x).drop i) ((by16 y).drop i) < 0 ↔ lsX x y f i = true)
 | 0, i, h => by
  rw [List.drop_eq_nil_of_le (by rw [by16_len]; omega), List.drop_eq_nil_of_le (by rw [by16_len]; omega)]
  unfold lsX
  simp [Lib.compareBytes]
 | f + 1, i, h => by
  have hi : i < 16 := by omega
  rw [by16_drop hi, by16_drop hi]
  have h1 := hx i hi
  have h2 := hy i hi
  have e1 : (UInt8.ofNat (x i)).toNat = x i := by simp; omega
  have e2 : (UInt8.ofNat (y i)).toNat = y i := by simp; omega
  unfold lsX Lib.compareBytes
  have ih := lsX_cmp hx hy f (i + 1) (by omega)
  have l1 : (UInt8.ofNat (x i) < UInt8.ofNat (y i)) ↔ x i < y i := by rw [UInt8.lt_iff_toNat_lt, e1, e2]
  have l2 : (UInt8.ofNat (y i) < UInt8.ofNat (x i)) ↔ y i < x i := by rw [UInt8.lt_iff_toNat_lt, e1, e2]
  by_cases he : x i = y i
  · rw [if_pos he]
    have n1 : ¬ (UInt8.ofNat (x i) < UInt8.ofNat (y i)) := by rw [l1]; omega
    have n2 : ¬ (UInt8.ofNat (y i) < UInt8.ofNat (x i)) := by rw [l2]; omega
    simp only [n1, n2, if_false]
    exact ih
  · rw [if_neg he]
    by_cases hlt : x i < y i
    · have n1 : (UInt8.ofNat (x i) < UInt8.ofNat (y i)) := l1.2 hlt
      simp [n1, hlt]
    · have n1 : ¬ (UInt8.ofNat (x i) < UInt8.ofNat (y i)) := by rw [l1]; exact hlt
      have n2 : (UInt8.ofNat (y i) < UInt8.ofNat (x i)) := by rw [l2]; omega
      simp [n1, n2, hlt]
set_option maxHeartbeats 1600000 in
set_option maxRecDepth 100000 in
theorem lessR_any (V : Int) (x : Nat → Nat) (U : Int) (y : Nat → Nat) (w : World) (hx : ∀ i, i < 16 → x i < 256) (hy : ∀ i, i < 16 → y i < 256) : Calls Tryz.prog 68 #[.agg (ipCells V x), .agg (ipCells U y)] w fun r w' => r = .returned (.bool (lessB V U x y)) ∧ Below w.heap.size w w' := by
 have HL : Hid (lessB V U x y = if V = U then lsX x y 16 0 else decide (V < U)) := by
  show _ = _
  unfold lessB
  by_cases h : V = U
  · rw [if_pos h, if_pos h]
    have h1 := lsX_cmp hx hy 16 0 rfl
    rw [List.drop_zero, List.drop_zero] at h1
    cases hb : lsX x y 16 0 with
    | true => exact decide_eq_true (h1.2 hb)
    | false => exact decide_eq_false (fun h2 => by rw [h1.1 h2] at hb; cases hb)
  · rw [if_neg h, if_neg h]
 have HXY : Hid ((∀ i, i < 16 → x i < 256) ∧ (∀ i, i < 16 → y i < 256)) := ⟨hx, hy⟩
 clear hx hy
 obtain ⟨Wb, B, HSZX, HOX, HLX, HWX, hb⟩ := zBx w (ipCells V x) 24
 have HBX : Hid (IprAt Wb B V x) := hb
 obtain ⟨CX, hC⟩ : ∃ C, C = ipCells V x := ⟨_, rfl⟩
 rw [← hC] at HWX ⊢
 clear hb hC
 obtain ⟨Wd, D, HSZZ, HOZ, HLZ, HWZ, hb⟩ := zBx Wb (ipCells U y) 24
 have HBZ : Hid (IprAt Wd D U y) := hb
 obtain ⟨CZ, hC⟩ : ∃ C, C = ipCells U y := ⟨_, rfl⟩
 rw [← hC] at HWZ ⊢
 clear hb hC
 have H0 : Hid (IprAt Wd B V x ∧ IprAt Wd D U y ∧ Below w.heap.size w Wd) := ⟨HBX.out.below HLZ.out, HBZ.out, bthen HLX.out HLZ.out⟩
 have v0 : Wd.cell? ⟨B, 0, none⟩ = some (.int .i64 V) := H0.out.1.cell 0
 have u0 : Wd.cell? ⟨D, 0, none⟩ = some (.int .i64 U) := H0.out.2.1.cell 0
 obtain ⟨r, hr⟩ : ∃ r, lessB V U x y = r := ⟨_, rfl⟩
 rw [hr] at HL
 rw [hr]
 clear hr
 go_enter Tryz.func68, Tryz.ntmps68
 by_cases hVU : V = U
 · have q1 : (V != U) = false := by rw [hVU]; simp
   have HR : Hid (r = lsX x y 16 0) := by have h := HL.out; rw [if_pos hVU] at h; exact h
   clear hVU
   go_upto_region 3 with (first | (rw [HOX.out, HWX.out]) | (rw [HOZ.out, HWZ.out]))
   clear v0 u0 q1
   go_wp2_with fail
   go_loopw [5] (fun ix wr => ∃ i : Nat, ix = .int .i64 (i : Nat) ∧ i ≤ 16 ∧ Hid (IprAt wr B V x ∧ IprAt wr D U y ∧ Below w.heap.size w wr ∧ lsX x y (16 - i) i = r)) (fun ix _ => 16 - (intOf ix).toNat)
   case atStart => exact ⟨0, rfl, by omega, H0.out.1, H0.out.2.1, H0.out.2.2, HR.out.symm⟩
   case round =>
    clear H0
    obtain ⟨i, rfl, hi, HI⟩ := hrel
    by_cases hlt : i < 16
    · have p1 : decide ((i : Int) < 16) = true := decide_eq_true (by omega)
      have p2 : decide (i < 16) = true := decide_eq_true hlt
      have i0 : (0 : Int) ≤ (i : Int) := by omega
      have i1 : (i : Int) < 16 := by omega
      have i2 : ((i : Int)).toNat = i := by omega
      have wi : IntKind.i64.wrap ((i : Int) + 1) = (i : Int) + 1 := i64_k _ (by omega) (by omega)
      have hstep : lsX x y (16 - i) i = if x i = y i then lsX x y (16 - (i + 1)) (i + 1) else decide (x i < y i) := by
       rw [show 16 - i = (16 - (i + 1)) + 1 by omega]
       rfl
      have HSTEP : Hid ((if x i = y i then lsX x y (16 - (i + 1)) (i + 1) else decide (x i < y i)) = r) := by have h := HI.out.2.2.2; rw [hstep] at h; exact h
      obtain ⟨p, hp⟩ : ∃ p, x i = p := ⟨_, rfl⟩
      obtain ⟨q, hq⟩ : ∃ p, y i = p := ⟨_, rfl⟩
      have HCE : Hid (∀ A : World, IprAt A B V x ∧ IprAt A D U y → A.cell? ⟨B, 1 + i, none⟩ = some (.int .u8 (p : Int)) ∧ A.cell? ⟨D, 1 + i, none⟩ = some (.int .u8 (q : Int))) := fun A hA => by
       rw [← hp, ← hq]
       exact ⟨ipr_byte hA.1 hlt, ipr_byte hA.2 hlt⟩
      rw [hp, hq] at HSTEP
      have HPQ : Hid (x i = p ∧ y i = q ∧ i < 16) := ⟨hp, hq, hlt⟩
      clear hstep hp hq hlt
      go_upto_region 6 with fail
      clear p1 p2
      refine MixH.start (fun A => IprAt A B V x ∧ IprAt A D U y) (by kernel_rfl) ?_
      obtain ⟨wA, hwA⟩ : ∃ wA, wA = wr.drew := ⟨_, rfl⟩
      have bdr := zDr hwA
      have hS : IprAt wA B V x ∧ IprAt wA D U y := ⟨HI.out.1.below bdr, HI.out.2.1.below bdr⟩
      have HA : Hid (IprAt wA B V x ∧ IprAt wA D U y ∧ Below w.heap.size w wA) := ⟨HI.out.1.below bdr, HI.out.2.1.below bdr, bthen HI.out.2.2.1 bdr⟩
      rw [← hwA]
      clear hwA bdr
      refine MixH.tks [true, true, true, false, true, true, true] 3 hS (fun K hK => ?_)
      simp only [Mix.pick]
      repeat (go_big_quiet_step (fail))
      refine wpQuiet_nil (hK _ ?_)
      clear hK K
      refine MixH.tk 2 3 rfl (.int .u8 (p : Int)) (yields_u8x (.tmp 22) rfl ⟨B, 1 + i, none⟩ (.int .u8 (p : Int)) rfl rfl (fun A hA => (HCE.out A hA).1)) hS (fun a' ha => ?_)
      simp only [zP1, zP2, zP3, zP4] at ha
      subst ha
      refine MixH.tk 1 7 rfl (.int .u8 (q : Int)) (yields_u8x (.tmp 26) rfl ⟨D, 1 + i, none⟩ (.int .u8 (q : Int)) rfl rfl (fun A hA => (HCE.out A hA).2)) hS (fun a' ha => ?_)
      simp only [zP1, zP2, zP3, zP4] at ha
      subst ha
      refine MixH.tks [false, false, false, false, false, false, false, false, true] 0 hS (fun K hK => ?_)
      simp only [Mix.pick]
      repeat (go_big_quiet_step (fail))
      refine wpQuiet_nil (hK _ ?_)
      clear hK K
      refine MixH.done (by kernel_rfl) ?_
      clear hS
      by_cases hpq : p = q
      · have t1 : ((p : Int) != (q : Int)) = false := by rw [hpq]; simp
        have t2 : (p != q) = false := by rw [hpq]; simp
        have HN : Hid (IprAt wA B V x ∧ IprAt wA D U y ∧ Below w.heap.size w wA ∧ lsX x y (16 - (i + 1)) (i + 1) = r) := by have h := HSTEP.out; rw [if_pos hpq] at h; exact ⟨HA.out.1, HA.out.2.1, HA.out.2.2, h⟩
        clear hpq
        go_wp2_with fail
        go_roundw
        case rel => exact ⟨i + 1, by go_num, by have := HPQ.out.2.2; omega, HN.out⟩
        case measure => simp [intOf]; omega
      · have t1 : ((p : Int) != (q : Int)) = true := by simp; omega
        have t2 : (p != q) = true := by simpa using hpq
        have HRR : Hid (decide (p < q) = r) := by have h := HSTEP.out; rw [if_neg hpq] at h; exact h
        clear hpq
        go_upto_region 7 with fail
        clear t1 t2
        refine MixH.start (fun A => IprAt A B V x ∧ IprAt A D U y) (by kernel_rfl) ?_
        obtain ⟨wE, hwE⟩ : ∃ wE, wE = wA.drew := ⟨_, rfl⟩
        have bdr := zDr hwE
        have hS : IprAt wE B V x ∧ IprAt wE D U y := ⟨HA.out.1.below bdr, HA.out.2.1.below bdr⟩
        have HE : Hid (Below w.heap.size w wE) := bthen HA.out.2.2 bdr
        rw [← hwE]
        clear hwE bdr
        obtain ⟨lt, hlt⟩ : ∃ b, decide ((p : Int) < (q : Int)) = b := ⟨_, rfl⟩
        have hlt2 : decide (p < q) = lt := by rw [← hlt]; exact decide_eq_decide.2 (by omega)
        have HLT : Hid (lt = r) := by rw [← HRR.out]; exact hlt2.symm
        refine MixH.tks [true, true, true, false, true, true, true] 4 hS (fun K hK => ?_)
        simp only [Mix.pick]
        repeat (go_big_quiet_step (fail))
        refine wpQuiet_nil (hK _ ?_)
        clear hK K
        refine MixH.tk 3 3 rfl (.int .u8 (p : Int)) (yields_u8x (.tmp 31) rfl ⟨B, 1 + i, none⟩ (.int .u8 (p : Int)) rfl rfl (fun A hA => (HCE.out A hA).1)) hS (fun a' ha => ?_)
        simp only [zP1, zP2, zP3, zP4] at ha
        subst ha
        refine MixH.tk 2 7 rfl (.int .u8 (q : Int)) (yields_u8x (.tmp 35) rfl ⟨D, 1 + i, none⟩ (.int .u8 (q : Int)) rfl rfl (fun A hA => (HCE.out A hA).2)) hS (fun a' ha => ?_)
        simp only [zP1, zP2, zP3, zP4] at ha
        subst ha
        refine MixH.tks [false, false, false, false, false, false, false, false, true, true] 0 hS (fun K hK => ?_)
        simp only [Mix.pick]
        repeat (go_big_quiet_step (fail))
        refine wpQuiet_nil (hK _ ?_)
        clear hK K
        refine MixH.done (by kernel_rfl) ?_
        clear hS
        go_wp2_with fail
        go_ret
        exact ⟨by have h := HLT.out; subst h; rfl, HE.out⟩
    · have p1 : decide ((i : Int) < 16) = false := decide_eq_false (by omega)
      have p2 : decide (i < 16) = false := decide_eq_false hlt
      have HRF : Hid (false = r) := by have h := HI.out.2.2.2; rw [show 16 - i = 0 by omega] at h; exact h
      clear hlt hi
      go_wp2
      go_ret
      exact ⟨by have h := HRF.out; subst h; rfl, HI.out.2.2.1⟩
 · have q1 : (V != U) = true := by simpa using hVU
   obtain ⟨lt, hlt⟩ : ∃ b, decide (V < U) = b := ⟨_, rfl⟩
   have HR : Hid (r = lt) := by have h := HL.out; rw [if_neg hVU, hlt] at h; exact h
   clear hVU
   go_wp2_with (first | (rw [HOX.out, HWX.out]) | (rw [HOZ.out, HWZ.out]))
   go_ret
   exact ⟨by have h := HR.out; subst h; rfl, H0.out.2.2⟩
end Go.Proofs.YtclpeepnngegaaaGreatDoor
