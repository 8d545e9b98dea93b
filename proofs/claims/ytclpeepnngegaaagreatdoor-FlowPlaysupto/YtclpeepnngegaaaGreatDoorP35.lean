/-
  RFq FPs: lemmas of the proof of FlowPlays, and walks through the functions that it calls.
-/
import Derived.Test.YtclpeepnngegaaaGreatDoorP00
import Derived.Test.YtclpeepnngegaaaGreatDoorP28
import Derived.Test.YtclpeepnngegaaaGreatDoorP34
namespace Go.Proofs.YtclpeepnngegaaaGreatDoor
open Go.RowKit Go.Maps
def StN (f : FN) : Prop := (f.x.pr = 6 → 1 ≤ f.st ∧ f.st ≤ 6) ∧ (f.x.pr ≠ 6 → f.st = 7)
structure JR (c : CF) (E : List FV) (L : List FN) : Prop where
  rl : RL2 E L
  sn : ∀ e ∈ E, StN e.n
  ok : ∀ e ∈ E, OkP c e.n
theorem JR.len {c : CF} {E : List FV} {L : List FN} (h : JR c E L) : L.length = E.length := by rw [h.rl.pm.length_eq, List.length_map]
theorem JR.of {c : CF} {E : List FV} {L : List FN} (h : JR c E L) {f : FN} (hf : f ∈ L) : ∃ e ∈ E, e.n = f := List.mem_map.1 (h.rl.pm.mem_iff.1 hf)
theorem gV_zero {v : Int} (_h : v = -1 ∨ (0 ≤ v ∧ v ≤ 7)) : gV v = 0 ↔ v = 0 := by
 unfold gV
 split <;> omega
theorem outL_tcp : ∀ k, k < 49 → 7 ≤ k → k % 7 < 6 → outL.getD k 0 = -1 ∨ (0 ≤ outL.getD k 0 ∧ outL.getD k 0 ≤ 6) := by decide
theorem inL_tcp : ∀ k, k < 49 → 7 ≤ k → k % 7 < 6 → inL.getD k 0 = -1 ∨ (0 ≤ inL.getD k 0 ∧ inL.getD k 0 ≤ 6) := by decide
theorem oT_tcp {st sg : Int} (h1 : 1 ≤ st ∧ st ≤ 6) (h2 : 0 ≤ sg ∧ sg < 6) : oT st sg = -1 ∨ (0 ≤ oT st sg ∧ oT st sg ≤ 6) := outL_tcp _ (by omega) (by omega) (by omega)
theorem iT_tcp {st sg : Int} (h1 : 1 ≤ st ∧ st ≤ 6) (h2 : 0 ≤ sg ∧ sg < 6) : iT st sg = -1 ∨ (0 ≤ iT st sg ∧ iT st sg ≤ 6) := inL_tcp _ (by omega) (by omega) (by omega)
theorem sgN_6 {pr : Int} (fl : Int) (h : pr ≠ 6) : sgN pr fl = 6 := by
 unfold sgN
 rw [if_neg (by simpa using h)]
theorem JR.turned {c : CF} {E : List FV} {L : List FN} (h : JR c E L) (dj : Dj E) (hw : ∀ e ∈ E, e.n.x.Wf) {e : FV} (he : e ∈ E) {v : Int} (hv : v = -1 ∨ StN { e.n with st := v }) (hv2 : v = -1 ∨ (0 ≤ v ∧ v ≤ 7)) : JR c (turnE c E e v) (rwC c L { e.n with st := gV v }) := by
 refine ⟨?_, fun a ha => ?_, OkP.turnE h.ok he⟩
 · unfold turnE rwC gV
   by_cases h1 : v = -1
   · subst h1
     exact h.rl.del e.n.x
   · rw [if_neg (by simpa using h1), if_neg h1, if_neg (by show ¬ v = 8; omega)]
     exact h.rl.upd dj hw he rfl
 · rcases turn_in ha with h1 | ⟨rfl, hv'⟩
   · exact h.sn a h1
   · rcases hv with h1 | h1
     · exact absurd h1 hv'
     · exact h1
theorem JR.new {c : CF} {E : List FV} {L : List FN} (h : JR c E L) (hw : ∀ e ∈ E, e.n.x.Wf) (hc : CfOk c) {x : TU} (hx : x.Wf) (hk : ckE x = 0) (hn : fF E x = none) {po st : Int} (hp : fpO c E x = some po) (hs : StN ⟨x, po, st, tkN c x.pr st⟩) (hs0 : st ≠ 8) (P : Nat) : JR c (E ++ [⟨⟨x, po, st, tkN c x.pr st⟩, P⟩]) (rwC c L ⟨x, po, st, 0⟩) := by
 refine ⟨?_, fun a ha => ?_, fun a ha => ?_⟩
 · unfold rwC
   rw [if_neg hs0]
   exact h.rl.new hw (e := ⟨⟨x, po, st, tkN c x.pr st⟩, P⟩) hx hn
 · rcases List.mem_append.1 ha with ha | ha
   · exact h.sn a ha
   · simp only [List.mem_singleton] at ha
     subst ha
     exact hs
 · rcases List.mem_append.1 ha with ha | ha
   · exact h.ok a ha
   · simp only [List.mem_singleton] at ha
     subst ha
     exact OkP.new hc hk hp
theorem turn_agree {c : CF} {E : List FV} {L : List FN} (h : JR c E L) {x : TU} {fl : Int} {e : FV} (he : e ∈ E) (hpr : e.n.x.pr = x.pr) (T : Int → Int → Int) (hT6 : ∀ st sg, 1 ≤ st ∧ st ≤ 6 → 0 ≤ sg ∧ sg < 6 → T st sg = -1 ∨ (0 ≤ T st sg ∧ T st sg ≤ 6)) (hT7 : T 7 6 = 7) :
    (T e.n.st (sgN x.pr fl) = -1 ∨ (0 ≤ T e.n.st (sgN x.pr fl) ∧ T e.n.st (sgN x.pr fl) ≤ 7)) ∧ (x.pr = 6 → T e.n.st (sgN x.pr fl) = T e.n.st (sgN 6 fl)) ∧ (x.pr ≠ 6 → T e.n.st (sgN x.pr fl) = e.n.st ∧ e.n.st = 7) ∧ (T e.n.st (sgN x.pr fl) ≠ 0 → T e.n.st (sgN x.pr fl) = -1 ∨ StN { e.n with st := T e.n.st (sgN x.pr fl) }) := by
  obtain ⟨s1, s2⟩ := h.sn e he
  by_cases h6 : x.pr = 6
  · have h1 := hT6 e.n.st (sgN 6 fl) (s1 (by omega)) (sg6_lt fl)
    rw [h6]
    refine ⟨by omega, fun _ => rfl, fun hh => absurd rfl hh, fun h0 => ?_⟩
    rcases h1 with h1 | h1
    · exact .inl h1
    · exact .inr ⟨fun _ => ⟨by show 1 ≤ T e.n.st (sgN 6 fl); omega, h1.2⟩, fun hh => absurd (hpr.trans h6) hh⟩
  · have h1 := s2 (by omega)
    rw [sgN_6 fl h6, h1, hT7]
    refine ⟨by omega, fun hh => absurd hh h6, fun _ => ⟨rfl, rfl⟩, fun _ => .inr ⟨fun hh => absurd (hpr.symm.trans hh) h6, fun _ => rfl⟩⟩
theorem eqP_pr {a b : TU} (h : eqP a b = true) : a.pr = b.pr := by
 unfold eqP at h
 simp only [Bool.and_eq_true, beq_iff_eq] at h
 exact h.1.1.1.1
theorem bg_agree {c : CF} {E : List FV} {L : List FN} (h : JR c E L) (hc : CfOk c) (hl : (E.length : Int) ≤ c.mx) {x : TU} {fl : Int} (hk : ckE x = 0) : rbE c L x fl = if oT 0 (sgN x.pr fl) = 0 then 173 else bgE c E x := by
 have ht := ckE_tp hk
 have hec := ec_ref ht
 have hsg := sg6_lt fl
 have e1 : (x.pr == 6 && rs (sgN 6 fl) != 4) = true ↔ oT 0 (sgN x.pr fl) = 0 := by
  by_cases h6 : x.pr = 6
  · rw [h6]
    have : sgN 6 fl = 0 ∨ sgN 6 fl = 1 ∨ sgN 6 fl = 2 ∨ sgN 6 fl = 3 ∨ sgN 6 fl = 4 ∨ sgN 6 fl = 5 := by omega
    rcases this with e | e | e | e | e | e <;> rw [e] <;> decide
  · rw [sgN_6 fl h6]
    constructor
    · intro hh
      simp [h6] at hh
    · intro hh
      exact absurd hh (by decide)
 unfold rbE bgE
 by_cases h0 : oT 0 (sgN x.pr fl) = 0
 · rw [if_pos (e1.2 h0), if_pos h0]
 · rw [if_neg (fun hh => h0 (e1.1 hh)), if_neg h0]
   have e2 : (x.pr == ecN x.sV) = ecB x := by
    have h1 : (!(x.pr == ecN x.sV)) = !(ecB x) := hec
    simpa using h1
   have e3 : (x.dp != 0) = !(x.dp == 0) := rfl
   rw [e2, e3]
   cases hb : (ecB x && (!(x.dp == 0) || x.sp == 0)) with
   | true => rw [if_pos rfl, if_pos rfl]
   | false =>
    have ef : ∀ (p q : Int), (if (false : Bool) = true then p else q) = q := fun _ _ => rfl
    rw [ef, ef, h.len]
    by_cases hm : (E.length : Int) = c.mx
    · rw [if_pos (show c.mx ≤ (E.length : Int) by omega), if_pos (show ((E.length : Int) == c.mx) = true by simpa using hm)]
    · rw [if_neg (show ¬ (c.mx ≤ (E.length : Int)) by omega), if_neg (show ¬ (((E.length : Int) == c.mx) = true) by simpa using hm), h.rl.port]
      cases hp : fpO c E x with
      | some po =>
       have h46 := tpB_46 ht
       have hok := OkP.new (st := 0) (le := 0) hc hk hp
       show (if (x.sV == 4 && (some po).getD 0 == 0) = true then (172 : Int) else 0) = if (some po).isNone = true then 172 else 0
       rw [if_neg, if_neg (show ¬ ((some po).isNone = true) by simp)]
       intro hh
       simp only [Option.getD_some, Bool.and_eq_true, beq_iff_eq] at hh
       have h3 := hok.2.1 hh.1
       have h4 : c.lo ≤ po := h3.1
       have := hc.lo
       omega
      | none =>
       have h4 : (x.sV == 4) = true := by
        cases h4 : x.sV == 4 with
        | true => rfl
        | false =>
         have h6 : x.sV = 6 := by simpa using tpB_46 ht h4
         unfold fpO at hp
         have e6 : (x.sV == 6) = true := by rw [h6]; rfl
         rw [e6, Bool.true_or, if_pos rfl] at hp
         cases hp
       rw [h4]
       rfl
theorem out_agree {c : CF} {E E' : List FV} {L L' : List FN} (h : JR c E L) (dj : Dj E) (hw : ∀ e ∈ E, e.n.x.Wf) (hc : CfOk c) (hl : (E.length : Int) ≤ c.mx) {x y y' : TU} (hx : x.Wf) {fl er er' : Int} {B : Nat} (hR : OutR c E x fl B er y E') (hS : OutS c L x fl er' y' L') : er' = er ∧ y' = y ∧ JR c E' L' := by
 have hfd := h.rl.find dj x
 rcases hR with ⟨k0, rfl, rfl, rfl⟩ | ⟨k0, e, hf, hE⟩ | ⟨k0, hf, hE⟩
 · rcases hS with ⟨_, rfl, rfl, rfl⟩ | ⟨k, _⟩ | ⟨k, _⟩
   · exact ⟨rfl, rfl, h⟩
   · exact absurd k k0
   · exact absurd k k0
 · rw [hf, Option.map_some] at hfd
   obtain ⟨he, hq⟩ := fF_some hf
   obtain ⟨t1, t2, t3, t4⟩ := turn_agree (x := x) (fl := fl) h he (eqP_pr hq) oT (fun st sg a b => oT_tcp a b) rfl
   rcases hS with ⟨k, _⟩ | ⟨_, f, hff, hS⟩ | ⟨_, hnn, _⟩
   · exact absurd k0 k
   · rw [hfd] at hff
     obtain rfl := Option.some.inj hff
     rcases hS with ⟨h6, hg, rfl, rfl, rfl⟩ | ⟨v, v1, v2, rfl, rfl, rfl⟩
     · rw [← t2 h6] at hg
       have h0 := (gV_zero t1).1 hg
       rcases hE with ⟨_, rfl, rfl, rfl⟩ | ⟨hh, _⟩
       · exact ⟨rfl, rfl, h⟩
       · exact absurd h0 hh
     · have hv : v = gV (oT e.n.st (sgN x.pr fl)) := by
         by_cases h6 : x.pr = 6
         · rw [t2 h6]; exact (v1 h6).2
         · rw [(t3 h6).1, v2 h6, (t3 h6).2]; rfl
       have hne : oT e.n.st (sgN x.pr fl) ≠ 0 := fun h0 => by
        by_cases h6 : x.pr = 6
        · have h1 := (v1 h6).1
          rw [hv, h0] at h1
          exact h1 rfl
        · have h1 := t3 h6
          omega
       rcases hE with ⟨hh, _⟩ | ⟨_, rfl, rfl, rfl⟩
       · exact absurd hh hne
       · refine ⟨rfl, ouT_same c rfl rfl, ?_⟩
         rw [hv]
         exact h.turned dj hw he (t4 hne) t1
   · rw [hfd] at hnn
     cases hnn
 · rw [hf, Option.map_none] at hfd
   have hb := bg_agree (fl := fl) h hc hl k0
   rcases hS with ⟨k, _⟩ | ⟨_, f, hff, _⟩ | ⟨_, _, hS⟩
   · exact absurd k0 k
   · rw [hfd] at hff
     cases hff
   · rw [hb] at hS
     rcases hE with ⟨h0, rfl, rfl, rfl⟩ | ⟨h0, hbg, rfl, rfl, rfl⟩ | ⟨h0, hbg, rfl, po, P, hp, _, rfl, rfl⟩
     · rw [if_pos h0] at hS
       rcases hS with ⟨_, rfl, rfl, rfl⟩ | ⟨hh, _⟩
       · exact ⟨rfl, rfl, h⟩
       · cases hh
     · rw [if_neg h0] at hS
       rcases hS with ⟨_, rfl, rfl, rfl⟩ | ⟨hh, _⟩
       · exact ⟨rfl, rfl, h⟩
       · exact absurd hh hbg
     · rw [if_neg h0] at hS
       rcases hS with ⟨hh, _⟩ | ⟨_, rfl, f, rfl, rfl, rfl⟩
       · exact absurd hbg hh
       · have hpt : prt c L x = po := by rw [h.rl.port, hp]; rfl
         have hst : oT 0 (sgN x.pr fl) = if (x.pr == 6) = true then 1 else 7 := by
          by_cases h6 : x.pr = 6
          · rw [h6] at h0 ⊢
            have hsg := sg6_lt fl
            have : sgN 6 fl = 0 ∨ sgN 6 fl = 1 ∨ sgN 6 fl = 2 ∨ sgN 6 fl = 3 ∨ sgN 6 fl = 4 ∨ sgN 6 fl = 5 := by omega
            rcases this with e | e | e | e | e | e <;> rw [e] at h0 ⊢ <;> first | rfl | exact absurd rfl h0
          · rw [sgN_6 fl h6, if_neg (by simpa using h6)]
            rfl
         rw [hpt, hst]
         refine ⟨rfl, ouT_same c rfl rfl, ?_⟩
         refine h.new hw hc hx k0 hf hp ?_ (by split <;> decide) P
         by_cases h6 : x.pr = 6
         · rw [if_pos (by simpa using h6)]
           exact ⟨fun _ => ⟨by show (1 : Int) ≤ 1; omega, by show (1 : Int) ≤ 6; omega⟩, fun hh => absurd h6 hh⟩
         · rw [if_neg (by simpa using h6)]
           exact ⟨fun hh => absurd hh h6, fun _ => rfl⟩
theorem in_46 {x : TU} (h : ckE x = 0) : x.dV = 4 ∨ x.dV = 6 := by
 have ht := ckE_tp h
 have h1 : x.sV = x.dV := by
  unfold tpB at ht
  simp only [Bool.and_eq_true, beq_iff_eq] at ht
  omega
 rw [← h1]
 cases h4 : x.sV == 4 with
 | true => exact .inl (by simpa using h4)
 | false => exact .inr (by simpa using tpB_46 ht h4)
theorem in_agree {c : CF} {E E' : List FV} {L L' : List FN} (h : JR c E L) (dj : Dj E) (djq : (E.filter isF).Pairwise (fun a b => eqQ a.kq.p b.kq.p = false)) (hw : ∀ e ∈ E, e.n.x.Wf) (hc : CfOk c) {x y y' : TU} {fl er er' : Int} (hR : InR c E x fl er y E') (hS : InS c L x fl er' y' L') : er' = er ∧ y' = y ∧ JR c E' L' := by
 rcases hR with ⟨k0, rfl, rfl, rfl⟩ | ⟨k0, hf, rfl, rfl, rfl⟩ | ⟨k0, e, hf, hE⟩
 · rcases hS with ⟨_, rfl, rfl, rfl⟩ | ⟨k, _⟩ | ⟨k, _⟩
   · exact ⟨rfl, rfl, h⟩
   · exact absurd k k0
   · exact absurd k k0
 · have hfd := h.rl.await hc dj djq h.ok (x := x) (in_46 k0)
   rw [hf, Option.map_none] at hfd
   rcases hS with ⟨k, _⟩ | ⟨_, _, rfl, rfl, rfl⟩ | ⟨_, f, hff, _⟩
   · exact absurd k0 k
   · exact ⟨rfl, rfl, h⟩
   · rw [hfd] at hff
     cases hff
 · have hfd := h.rl.await hc dj djq h.ok (x := x) (in_46 k0)
   rw [hf, Option.map_some] at hfd
   have he := awO_mem hf
   rcases hS with ⟨k, _⟩ | ⟨_, hnn, _⟩ | ⟨_, f, hff, hS⟩
   · exact absurd k0 k
   · rw [hfd] at hnn
     cases hnn
   · have hq := List.find?_some hff
     rw [hfd] at hff
     obtain rfl := Option.some.inj hff
     have hpr : e.n.x.pr = x.pr := by
      have h1 := eqP_pr hq
      have h2 : (ouT c e.n).rev.pr = e.n.x.pr := by
       show (ouT c e.n).pr = _
       unfold ouT
       split <;> rfl
      omega
     obtain ⟨t1, t2, t3, t4⟩ := turn_agree (x := x) (fl := fl) h he hpr iT (fun st sg a b => iT_tcp a b) rfl
     rcases hS with ⟨h6, hg, rfl, rfl, rfl⟩ | ⟨v, v1, v2, rfl, rfl, rfl⟩
     · rw [← t2 h6] at hg
       have h0 := (gV_zero t1).1 hg
       rcases hE with ⟨_, rfl, rfl, rfl⟩ | ⟨hh, _⟩
       · exact ⟨rfl, rfl, h⟩
       · exact absurd h0 hh
     · have hv : v = gV (iT e.n.st (sgN x.pr fl)) := by
         by_cases h6 : x.pr = 6
         · rw [t2 h6]; exact (v1 h6).2
         · rw [(t3 h6).1, v2 h6, (t3 h6).2]; rfl
       have hne : iT e.n.st (sgN x.pr fl) ≠ 0 := fun h0 => by
        by_cases h6 : x.pr = 6
        · have h1 := (v1 h6).1
          rw [hv, h0] at h1
          exact h1 rfl
        · have h1 := t3 h6
          omega
       rcases hE with ⟨hh, _⟩ | ⟨_, rfl, rfl, rfl⟩
       · exact absurd hh hne
       · refine ⟨rfl, rfl, ?_⟩
         rw [hv]
         exact h.turned dj hw he (t4 hne) t1
theorem JR.tick {c : CF} {E : List FV} {L : List FN} (h : JR c E L) (hle : ∀ e ∈ E, LeOk e) : JR c (E.filterMap tk1) (L.filterMap tkR) ∧ (L.length - (L.filterMap tkR).length = endN E) := by
 obtain ⟨h1, h2⟩ := h.rl.tick hle
 have key : ∀ a ∈ E.filterMap tk1, ∃ e ∈ E, a.n.x = e.n.x ∧ a.n.po = e.n.po ∧ a.n.st = e.n.st := fun a ha => by
  obtain ⟨e, he, hq⟩ := List.mem_filterMap.1 ha
  unfold tk1 at hq
  split at hq
  · cases hq
  · obtain rfl := Option.some.inj hq
    exact ⟨e, he, rfl, rfl, rfl⟩
 refine ⟨⟨h1, fun a ha => ?_, fun a ha => ?_⟩, h2⟩
 · obtain ⟨e, he, q1, q2, q3⟩ := key a ha
   have := h.sn e he
   unfold StN at this ⊢
   rw [q1, q3]
   exact this
 · obtain ⟨e, he, q1, q2, q3⟩ := key a ha
   exact (h.ok e he).same q1 q2
theorem JR.nil (c : CF) : JR c [] [] := ⟨⟨List.Perm.refl _, List.Pairwise.nil⟩, fun _ h => (by cases h), fun _ h => (by cases h)⟩
end Go.Proofs.YtclpeepnngegaaaGreatDoor
namespace Go.Proofs.YtclpeepnngegaaaGreatDoor
open Go.RowKit Go.Maps
theorem fl_part0 (x : FN) (w : World) : (part 38 (flC x) 0).run Tryz.prog w = .ok (.agg (tuC x.x)) w := by kernel_rfl
theorem fl_part1 (x : FN) (w : World) : (part 3 (flC x) 37).run Tryz.prog w = .ok (.int .i64 x.po) w := by kernel_rfl
theorem fl_part2 (x : FN) (w : World) : (part 3 (flC x) 38).run Tryz.prog w = .ok (.int .i64 x.st) w := by kernel_rfl
theorem fl_part3 (x : FN) (w : World) : (part 3 (flC x) 39).run Tryz.prog w = .ok (.int .i64 x.le) w := by kernel_rfl
theorem Tryz.flFields : Tryz.prog.underlying 72 = some (.struct (Tryz.prog.fieldsOf 72)) := by kernel_rfl
theorem Tryz.flStood : Tryz.prog.stoodInHeld 72 = false := by kernel_rfl
theorem Tryz.flGuard : Tryz.prog.eqGuardType Tryz.prog.depth 72 = false := by kernel_rfl
def eqF (x y : FN) : Bool := eqP x.x y.x && (x.po == y.po && (x.st == y.st && x.le == y.le))
theorem eqF_refl (x : FN) : eqF x x = true := by unfold eqF; rw [eqP_refl]; simp
set_option maxHeartbeats 1600000 in
set_option maxRecDepth 100000 in
theorem eqFl (x y : FN) (w : World) : (Op.equalIn 10000 72 (.agg (flC x)) (.agg (flC y))).run Tryz.prog w = .ok (eqF x y) w := by
 rw [show (10000 : Nat) = 9999 + 1 from rfl, run_equalIn_struct w 9999 72 _ _ Tryz.flFields Tryz.flStood]
 rw [show (Tryz.prog.fieldsOf 72).toList = [{ name := "Tuple", type := 38, offset := 0, embedded := false, tag := "", pkgPath := "", byteOffset := 0 }, { name := "Port", type := 3, offset := 37, embedded := false, tag := "", pkgPath := "", byteOffset := 72 }, { name := "State", type := 3, offset := 38, embedded := false, tag := "", pkgPath := "", byteOffset := 80 }, { name := "Left", type := 3, offset := 39, embedded := false, tag := "", pkgPath := "", byteOffset := 88 }] from by kernel_rfl]
 simp only [Op.eqFields, Sem.run_bind, Sem.run_ite]
 rw [if_pos (by decide)]
 simp only [fl_part0, Result.andThen_ok]
 rw [show (9999 : Nat) = 9994 + 5 from rfl, eqTu x.x y.x w 9994]
 unfold eqF
 cases h : eqP x.x y.x
 · simp
 · simp only [Result.andThen_ok, Bool.not_true, Bool.false_eq_true, if_false, fl_part1]
   rw [if_pos (by decide), show (9994 + 5 : Nat) = 9998 + 1 from rfl, run_equalIn_int w 9998 3 .i64 .i64 x.po y.po Tryz.underlying3]
   cases h2 : x.po == y.po
   · simp
   · simp only [Bool.not_true, Bool.false_eq_true, if_false, fl_part2, Result.andThen_ok]
     rw [if_pos (by decide), run_equalIn_int w 9998 3 .i64 .i64 x.st y.st Tryz.underlying3]
     cases h3 : x.st == y.st
     · simp
     · simp only [Bool.not_true, Bool.false_eq_true, if_false, fl_part3, Result.andThen_ok]
       rw [if_pos (by decide), run_equalIn_int w 9998 3 .i64 .i64 x.le y.le Tryz.underlying3]
       cases h4 : x.le == y.le <;> simp
theorem yields_neq_fl {ops : Array Oper} {o : Oper} {a : Act} {S : World → Prop} (X Y : Operand) (ho : o.op = .binOp .neq 72 X Y 72) (x y : FN) (hx : a.eval X = .agg (flC x)) (hy : a.eval Y = .agg (flC y)) (b : Bool) (hb : (!eqF x y) = b) (hw : Region.wanted o (yielded ops a.tmps) = true) : YieldsIf Tryz.prog ops S o (.bool b) a := by
 refine .inl ⟨hw, fun w _ => ?_⟩
 subst hb
 obtain ⟨dst, op, type, pos, after, guard⟩ := o
 simp only at ho
 subst ho
 simp only [execOp, Sem.run_bind, Sem.run_pure, hx, hy, run_eqGuard_agg w .neq 72 _ _ _ _ Tryz.flGuard, Result.andThen_ok, run_neq_struct, eqFl]
set_option maxHeartbeats 1600000 in
set_option maxRecDepth 100000 in
theorem sameFlows_any (b1 b2 : Nat) (v1 v2 : Value) (S : List FN) (w : World) (h1 : FL w b1 v1 S) (h2 : FL w b2 v2 S) (hS : S.length ≤ 4096) : Calls Tryz.prog 20 #[v1, v2] w fun r w' => r = .returned (.bool true) ∧ Below w.heap.size w w' := by
 have HH : Hid (FL w b1 v1 S ∧ FL w b2 v2 S) := ⟨h1, h2⟩
 obtain ⟨a1, c1, e1⟩ : ∃ a c, v1 = .slice a S.length c := h1.form
 obtain ⟨a2, c2, e2⟩ : ∃ a c, v2 = .slice a S.length c := h2.form
 obtain ⟨n, hn⟩ : ∃ n, S.length = n := ⟨_, rfl⟩
 rw [hn] at e1 e2 hS
 have HN : Hid (S.length = n) := hn
 clear h1 h2 hn
 subst e1 e2
 have q1 : ((n : Int) != (n : Int)) = false := by simp
 go_enter Tryz.func20, Tryz.ntmps20
 go_wp2_with fail
 go_loopw [5] (fun ix wr => ∃ k : Nat, ix = .int .i64 (k : Nat) ∧ k ≤ n ∧ Hid (FL wr b1 (.slice a1 n c1) S ∧ FL wr b2 (.slice a2 n c2) S ∧ Below w.heap.size w wr)) (fun ix _ => n - (intOf ix).toNat)
 case atStart => exact ⟨0, rfl, Nat.zero_le _, HH.out.1, HH.out.2, Below.refl _ _⟩
 case round =>
  clear HH
  obtain ⟨k, rfl, hk, HI⟩ := hrel
  by_cases hkn : k < n
  · have p1 : decide ((k : Int) < (n : Int)) = true := decide_eq_true (by omega)
    have p2 : decide (k < n) = true := decide_eq_true hkn
    have k0 : (0 : Int) ≤ (k : Int) := by omega
    have k1 : (k : Int) < (n : Int) := by omega
    have k2 : ((k : Int)).toNat = k := by omega
    have wk : IntKind.i64.wrap ((k : Int) + 1) = (k : Int) + 1 := i64_k _ (by omega) (by omega)
    obtain ⟨f, hf⟩ : ∃ f, S[k]? = some f := ⟨_, List.getElem?_eq_getElem (by rw [HN.out]; exact hkn)⟩
    obtain ⟨g1, d1, e1, _, _, r1⟩ := HI.out.1.at k f hf
    obtain ⟨g2, d2, e2, _, _, r2⟩ := HI.out.2.1.at k f hf
    simp only [Value.slice.injEq] at e1 e2
    obtain ⟨rfl, x1, x2⟩ := e1
    obtain ⟨rfl, x3, x4⟩ := e2
    clear x1 x2 x3 x4 hf
    have HR : Hid (wr.rangeAt g1 (k * 40) (flC f).toList ∧ wr.rangeAt g2 (k * 40) (flC f).toList) := ⟨r1, r2⟩
    clear r1 r2
    go_upto_region 6 with fail
    refine MixH.start (fun A => A.rangeAt g1 (k * 40) (flC f).toList ∧ A.rangeAt g2 (k * 40) (flC f).toList) (by kernel_rfl) ?_
    obtain ⟨wA, hwA⟩ : ∃ wA, wA = wr.drew := ⟨_, rfl⟩
    have bdr := zDr hwA
    have HA : Hid (FL wA b1 (.slice (some ⟨g1, 0, none⟩) n c1) S ∧ FL wA b2 (.slice (some ⟨g2, 0, none⟩) n c2) S ∧ Below w.heap.size w wA) := ⟨HI.out.1.below bdr, HI.out.2.1.below bdr, bthen HI.out.2.2 bdr⟩
    have hS : wA.rangeAt g1 (k * 40) (flC f).toList ∧ wA.rangeAt g2 (k * 40) (flC f).toList := ⟨rng_drew hwA HR.out.1, rng_drew hwA HR.out.2⟩
    rw [← hwA]
    clear hwA bdr HI HR
    refine MixH.tks [true, true, true, false, true, true, true] 3 hS (fun K hK => ?_)
    simp only [Mix.pick]
    repeat (go_big_quiet_step (fail))
    refine wpQuiet_nil (hK _ ?_)
    clear hK K
    refine MixH.tk 2 3 rfl (.agg (flC f)) (yields_flo (.tmp 19) rfl g1 (k * 40) f rfl rfl (fun A hA => hA.1)) hS (fun a' ha => ?_)
    simp only [zP1, zP2, zP3, zP4] at ha
    subst ha
    refine MixH.tk 1 7 rfl (.agg (flC f)) (yields_flo (.tmp 23) rfl g2 (k * 40) f rfl rfl (fun A hA => hA.2)) hS (fun a' ha => ?_)
    simp only [zP1, zP2, zP3, zP4] at ha
    subst ha
    refine MixH.tk 0 8 rfl (.bool false) (yields_neq_fl (.tmp 20) (.tmp 24) rfl f f rfl rfl false (by rw [eqF_refl]; rfl) rfl) hS (fun a' ha => ?_)
    simp only [zP1, zP2, zP3, zP4] at ha
    subst ha
    refine MixH.done (by kernel_rfl) ?_
    clear hS
    go_wp2_with fail
    go_roundw
    case rel => exact ⟨k + 1, by go_num, by omega, HA.out⟩
    case measure => simp [intOf]; omega
  · have p1 : decide ((k : Int) < (n : Int)) = false := decide_eq_false (by omega)
    have p2 : decide (k < n) = false := decide_eq_false hkn
    clear hkn hk
    go_wp2_with fail
    go_ret
    exact ⟨rfl, HI.out.2.2⟩
end Go.Proofs.YtclpeepnngegaaaGreatDoor
