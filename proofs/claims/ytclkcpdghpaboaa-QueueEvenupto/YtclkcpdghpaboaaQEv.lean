/-
  Layer 18, QueueEven: queue, book, purse and the pairs beside one another, under way.
-/
import Derived.Test.YtclkcpdghpaboaaQEu
import Derived.Test.YtclkcpdghpaboaaQueueLinesWalk
namespace Go.Proofs.Ytclkcpdghpaboaa
open Go.RowKit Go.ChangeShapes Go.WideShapes

theorem QNI.row {W : World} {P G : Nat} {cq : List CL} {t : TN} {B : Nat} {lv bv sv : Value} {ms : List BM} {cb : List CL} {ab off : Nat} {l2 : List LI} {p : Nat} {tv : Value} {ts : List Int} {w : World} (h : QNI W P G cq t B lv bv sv ms cb (some ⟨ab, off, none⟩) l2 p tv ts w) (j : Nat) (hj : j < cb.length) : w.rangeAt ab (off + j * 5) (liA (cAt cb j).li).toList := by
  obtain ⟨_, ab', off', e, hr⟩ := h.ql.ls.li.row j (cAt cb j).li (by rw [← h.ql.li, List.getElem?_map, cAt_get hj]; rfl)
  simp only [Option.some.injEq, Addr.mk.injEq, and_true] at e
  obtain ⟨rfl, rfl⟩ := e
  exact hr
theorem Tz.first {l2 : List LI} (h : ∀ l ∈ l2, LiW l) : Tz (c0s l2) := by
  constructor
  · intro c hc _
    unfold c0s at hc
    obtain ⟨l, _, rfl⟩ := List.mem_map.1 hc
    rfl
  · intro c hc
    unfold c0s at hc
    obtain ⟨l, hl, rfl⟩ := List.mem_map.1 hc
    exact h l hl
theorem c0s_tk (l2 : List LI) : (c0s l2).map CL.tk = l2.map LI.bu := by unfold c0s; rw [List.map_map]; rfl
theorem push_tks (cs : List CL) (i s n : Int) : (pushCs cs i s n).map CL.tk = cs.map CL.tk := by
  apply List.ext_getElem?
  intro j
  by_cases hj : j < cs.length
  · rw [List.getElem?_map, List.getElem?_map, cAt_get hj, cAt_get (by rw [push_len2]; exact hj), Option.map_some, Option.map_some, (push_lt cs i s n j).2]
  · rw [List.getElem?_eq_none (by rw [List.length_map, push_len2]; omega), List.getElem?_eq_none (by rw [List.length_map]; omega)]
theorem take_tks {cs : List CL} {j : Nat} {x : Int × Int} {M' : List (Int × Int)} (hL : (cAt cs j).L = x :: M') (hr : 0 < (cAt cs j).li.ra) : (cs.set j (takeC (cAt cs j))).map CL.tk = (cs.map CL.tk).set j ((cAt cs j).tk - x.2) := by
  rw [List.map_set]
  congr 1
  show (if 0 < (cAt cs j).li.ra then (cAt cs j).tk - hdS (cAt cs j).L else (cAt cs j).tk) = _
  rw [if_pos hr, hL]
  rfl
theorem take_tks0 {cs : List CL} {j : Nat} (hj : j < cs.length) (hr : ¬ 0 < (cAt cs j).li.ra) : (cs.set j (takeC (cAt cs j))).map CL.tk = cs.map CL.tk := by
  rw [List.map_set]
  have e : (takeC (cAt cs j)).tk = (cAt cs j).tk := by
    show (if 0 < (cAt cs j).li.ra then (cAt cs j).tk - hdS (cAt cs j).L else (cAt cs j).tk) = _
    rw [if_neg hr]
  rw [e]
  apply List.ext_getElem?
  intro i
  by_cases hi : j = i
  · subst hi
    rw [List.getElem?_set_self (by rw [List.length_map]; exact hj), List.getElem?_map, cAt_get hj]
    rfl
  · rw [List.getElem?_set_ne hi]
/-- lists of truth values stand -/
def Kb (w w' : World) : Prop := Ch (fun q => ∀ cc, w.heap[q]? ≠ some (.cells cc 4 (0, 0))) w w'
theorem Kb.ofKp {w w' : World} (k : Kp w w') : Kb w w' := ⟨k.os, k.tape, k.output, k.size, fun q _ hq => by
  have hq' : ∃ cc, w.heap[q]? = some (.cells cc 4 (0, 0)) := Classical.byContradiction fun h => hq (fun cc e => h ⟨cc, e⟩)
  obtain ⟨cc, h1⟩ := hq'
  rw [h1]
  exact k.block q cc _ h1 (by decide) (by decide) (by decide)⟩
theorem Kb.ofCh {S : Nat → Prop} {w w' : World} (k : Ch S w w') (hS : ∀ q, S q → ∃ cc ty, w.heap[q]? = some (.cells cc ty (0, 0)) ∧ ty ≠ 4) : Kb w w' := k.mono (fun q _ hq cc h1 => by
  obtain ⟨c2, ty, h2, h3⟩ := hS q hq
  exact tk_ne h2 h1 h3)
theorem Kb.gl {w w' : World} {base : Nat} {v : Value} {L : List Bool} (k : Kb w w') (h : GL 1 blL 4 w base v L) : GL 1 blL 4 w' base v L := h.ch k (fun q hq hS => by
  obtain ⟨_, _, c, h1⟩ := h.kind q hq
  exact hS c h1)
structure QPI (W : World) (P G : Nat) (cq : List CL) (t : TN) (B : Nat) (lv bv sv : Value) (ms : List BM) (cb : List CL) (a : Option Addr) (l2 : List LI) (p : Nat) (tv : Value) (ts : List Int) (gp N2 pc : Nat) (ps : List (Int × Int)) (w : World) : Prop where
  n : QNI W P G cq t B lv bv sv ms cb a l2 p tv ts w
  g : GL 2 prL 106 w W.heap.size (.slice (some ⟨gp, 0, none⟩) N2 pc) ps
section
variable {W : World} {P G : Nat} {cq : List CL} {t : TN} {B : Nat} {lv bv sv : Value} {ms : List BM} {cb : List CL} {a : Option Addr} {l2 : List LI} {p : Nat} {tv : Value} {ts : List Int} {gp N2 pc : Nat} {ps : List (Int × Int)} {w : World}
theorem QPI.kind (h : QPI W P G cq t B lv bv sv ms cb a l2 p tv ts gp N2 pc ps w) : W.heap.size ≤ gp ∧ ∃ cc, w.heap[gp]? = some (.cells cc 106 (0, 0)) := by
  obtain ⟨h1, _, c, h2⟩ := h.g.kind gp rfl
  exact ⟨h1, c, h2⟩
theorem QPI.below {w' : World} (h : QPI W P G cq t B lv bv sv ms cb a l2 p tv ts gp N2 pc ps w) (b : Below w.heap.size w w') : QPI W P G cq t B lv bv sv ms cb a l2 p tv ts gp N2 pc ps w' := ⟨h.n.below b, h.g.below b⟩
/-- a change of blocks of other kinds leaves the pairs -/
theorem QPI.gch {S : Nat → Prop} {w' : World} (h : QPI W P G cq t B lv bv sv ms cb a l2 p tv ts gp N2 pc ps w) (k : Ch S w w') (hS : ∀ q, S q → ∃ cc ty, w.heap[q]? = some (.cells cc ty (0, 0)) ∧ ty ≠ 106) : GL 2 prL 106 w' W.heap.size (.slice (some ⟨gp, 0, none⟩) N2 pc) ps :=
  h.g.ch k (fun q hq hs => by
    obtain ⟨cc, ty, h1, h2⟩ := hS q hs
    obtain ⟨_, _, c, h3⟩ := h.g.kind q hq
    exact tk_ne h1 h3 h2)
theorem QPI.bb (h : QPI W P G cq t B lv bv sv ms cb a l2 p tv ts gp N2 pc ps w) : ∀ q, BB B lv bv sv ms q → ∃ cc ty, w.heap[q]? = some (.cells cc ty (0, 0)) ∧ ty ≠ 106 := by
  intro q hq
  rcases hq with rfl | hq | hq | hq | ⟨m, hm, hq⟩
  · exact ⟨_, _, h.n.ql.k.at', by decide⟩
  · obtain ⟨_, _, c, h3⟩ := h.n.ql.k.l.kind q hq
    exact ⟨_, _, h3, by decide⟩
  · obtain ⟨_, _, c, h3⟩ := h.n.ql.k.by'.kind q hq
    exact ⟨_, _, h3, by decide⟩
  · obtain ⟨_, _, c, h3⟩ := h.n.ql.k.s.kind q hq
    exact ⟨_, _, h3, by decide⟩
  · obtain ⟨_, _, c, h3⟩ := (h.n.ql.k.ln m hm).kind hq
    exact ⟨_, _, h3, by decide⟩
theorem QPI.bbB (h : QPI W P G cq t B lv bv sv ms cb a l2 p tv ts gp N2 pc ps w) : ∀ q, BB B lv bv sv ms q → ∃ cc ty, w.heap[q]? = some (.cells cc ty (0, 0)) ∧ ty ≠ 4 := by
  intro q hq
  rcases hq with rfl | hq | hq | hq | ⟨m, hm, hq⟩
  · exact ⟨_, _, h.n.ql.k.at', by decide⟩
  · obtain ⟨_, _, c, h3⟩ := h.n.ql.k.l.kind q hq
    exact ⟨_, _, h3, by decide⟩
  · obtain ⟨_, _, c, h3⟩ := h.n.ql.k.by'.kind q hq
    exact ⟨_, _, h3, by decide⟩
  · obtain ⟨_, _, c, h3⟩ := h.n.ql.k.s.kind q hq
    exact ⟨_, _, h3, by decide⟩
  · obtain ⟨_, _, c, h3⟩ := (h.n.ql.k.ln m hm).kind hq
    exact ⟨_, _, h3, by decide⟩
theorem QPI.kp {w' : World} {cq' : List CL} {t' : TN} (h : QPI W P G cq t B lv bv sv ms cb a l2 p tv ts gp N2 pc ps w) (hq : Q1 W P G cq' t' w') (k : Kp w w') : QPI W P G cq' t' B lv bv sv ms cb a l2 p tv ts gp N2 pc ps w' ∧ Ko w w' := by
  obtain ⟨h1, h2⟩ := h.n.kp hq k
  exact ⟨⟨h1, k.gl h.g (by decide) (by decide) (by decide)⟩, h2⟩
theorem QPI.box {w' : World} {O : Nat} {o : OV} (h : QPI W P G cq t B lv bv sv ms cb a l2 p tv ts gp N2 pc ps w) (k : Ch (fun q => q = O) w w') (hO : OpvAt w O o) (hW : W.heap.size ≤ O) : QPI W P G cq t B lv bv sv ms cb a l2 p tv ts gp N2 pc ps w' :=
  ⟨h.n.box k hO hW, h.gch k (fun q e => by have e' : q = O := e; subst e'; exact ⟨_, _, hO, by decide⟩)⟩
theorem QPI.book {w' : World} {ms' : List BM} {cb' : List CL} (h : QPI W P G cq t B lv bv sv ms cb a l2 p tv ts gp N2 pc ps w) (k : Ch (BB B lv bv sv ms) w w') (hk : BK W.heap.size w' B lv bv sv ms') (hag : Ag ms' cb') (hli : cb'.map CL.li = l2) : QPI W P G cq t B lv bv sv ms' cb' a l2 p tv ts gp N2 pc ps w' ∧ Ko w w' := by
  obtain ⟨h1, h2⟩ := h.n.book k hk hag hli
  exact ⟨⟨h1, h.gch k h.bb⟩, h2⟩
theorem QPI.setT {w' : World} {ts' : List Int} (h : QPI W P G cq t B lv bv sv ms cb a l2 p tv ts gp N2 pc ps w) (k : Ch (fun q => tv.ownBlock = some q) w w') (hp : PK W.heap.size w' p tv ts') : QPI W P G cq t B lv bv sv ms cb a l2 p tv ts' gp N2 pc ps w' ∧ Ko w w' := by
  obtain ⟨h1, h2⟩ := h.n.setT k hp
  refine ⟨⟨h1, h.gch k (fun q e => ?_)⟩, h2⟩
  obtain ⟨_, _, c, h3⟩ := h.n.pk.t.kind q e
  exact ⟨_, _, h3, by decide⟩
/-- the pairs alone are written -/
theorem QPI.setP {w' : World} {ps' : List (Int × Int)} (h : QPI W P G cq t B lv bv sv ms cb a l2 p tv ts gp N2 pc ps w) (k : Ch (fun q => (Value.slice (some ⟨gp, 0, none⟩) N2 pc).ownBlock = some q) w w') (hg : GL 2 prL 106 w' W.heap.size (.slice (some ⟨gp, 0, none⟩) N2 pc) ps') : QPI W P G cq t B lv bv sv ms cb a l2 p tv ts gp N2 pc ps' w' := by
  obtain ⟨hW, cc, hgp⟩ := h.kind
  have e1 : ∀ q, (Value.slice (some ⟨gp, 0, none⟩) N2 pc).ownBlock = some q → q = gp := fun q e => by simp only [Value.ownBlock, Option.some.injEq] at e; exact e.symm
  have hq : Q1 W P G cq t w' := h.n.ql.q.ch k (fun q e => by have e' := e1 q e; subst e'; exact ⟨hW, _, _, hgp, by decide, by decide, by decide⟩)
  refine ⟨⟨⟨hq, h.n.ql.k.ch k (fun q hb e => ?_), h.n.ql.ag, h.n.ql.li, h.n.ql.ls.ch h.n.ql.q.bel hq.bel k (fun q e => ?_)⟩, h.n.pk.ch k (fun e => ?_) (fun q hq' e => ?_), h.n.ne⟩, hg⟩
  · have e' := e1 q e
    subst e'
    obtain ⟨c2, ty, h1, h2⟩ := h.bb q hb
    exact tk_ne h1 hgp h2
  · have e' := e1 q e
    subst e'
    exact ⟨_, _, hgp, by decide⟩
  · have e' := e1 p e
    subst e'
    exact tk_ne h.n.pk.at' hgp (by decide)
  · have e' := e1 q e
    subst e'
    obtain ⟨_, _, c, hc⟩ := h.n.pk.t.kind q hq'
    exact tk_ne hc hgp (by decide)
theorem QPI.push (h : QPI W P G cq t B lv bv sv ms cb a l2 p tv ts gp N2 pc ps w) (i size number : Int) : Calls Try.prog 16 #[.pointer (some ⟨P, 0, none⟩), .int .i64 i, .int .i64 size, .int .i64 number] w fun e w' => e = .returned (.int .i64 (pushE cq i size)) ∧ QPI W P G (pushCs cq i size number) t B lv bv sv ms cb a l2 p tv ts gp N2 pc ps w' ∧ Ko w w' := by
  refine (h.n.ql.q.push i size number).mono ?_
  rintro e w' ⟨rfl, q', k'⟩
  exact ⟨rfl, h.kp q' k'⟩
theorem QPI.pop (h : QPI W P G cq t B lv bv sv ms cb a l2 p tv ts gp N2 pc ps w) : Calls Try.prog 17 #[.pointer (some ⟨P, 0, none⟩)] w fun e w' => e = .returned (.tuple #[.int .i64 (popN cq t), .int .i64 (popC cq t), .bool (anyR cq)]) ∧ QPI W P G (popQ cq t) (popT cq t) B lv bv sv ms cb a l2 p tv ts gp N2 pc ps w' ∧ Kb w w' := by
  refine h.n.ql.q.pop.mono ?_
  rintro e w' ⟨rfl, q', k'⟩
  exact ⟨rfl, (h.kp q' k').1, Kb.ofKp k'⟩
theorem QPI.peek (h : QPI W P G cq t B lv bv sv ms cb a l2 p tv ts gp N2 pc ps w) : Calls Try.prog 23 #[.pointer (some ⟨P, 0, none⟩)] w fun e w' => e = .returned (.tuple #[.int .i64 (popN cq t), .int .i64 (popC cq t), .bool (anyR cq)]) ∧ QPI W P G cq t B lv bv sv ms cb a l2 p tv ts gp N2 pc ps w' := by
  refine h.n.ql.q.peek.mono ?_
  rintro e w' ⟨rfl, q', b'⟩
  exact ⟨rfl, h.below b'⟩
theorem QPI.qtick {cs : List CL} (h : QPI W P G cs t B lv bv sv ms cs a l2 p tv ts gp N2 pc ps w) : Calls Try.prog 26 #[.pointer (some ⟨P, 0, none⟩)] w fun e w' => e = .returned (.tuple #[]) ∧ QPI W P G (cs.map fillC) t B lv bv sv ms (cs.map fillC) a l2 p tv ts gp N2 pc ps w' := by
  refine h.n.ql.q.tick.mono ?_
  rintro e w' ⟨rfl, q', k'⟩
  obtain ⟨h1, h2⟩ := h.kp q' k'
  exact ⟨rfl, ⟨⟨⟨h1.n.ql.q, h1.n.ql.k, h1.n.ql.ag.fill, by rw [fill_lis]; exact h1.n.ql.li, h1.n.ql.ls⟩, h1.n.pk, h1.n.ne⟩, h1.g⟩⟩
theorem QPI.pushed {t0 : TN} (h : QPI W P G cq t B lv bv sv ms cb a l2 p tv ts gp N2 pc ps w) (h0 : QOk cb t0) (n c : Nat) (hn : cb.length = n) (kd oc os oi e : Int) (tw : Bool) (he : e = pushE cb oc os) : Calls Try.prog 19 #[.pointer (some ⟨B, 0, none⟩), .slice a n c, .agg (opC ⟨kd, tw, oc, os, oi⟩), .int .i64 e] w fun r w' => r = .returned (.bool true) ∧ ∃ ms', QPI W P G cq t B lv bv sv ms' (pushCs cb oc os oi) a l2 p tv ts gp N2 pc ps w' ∧ ms'.map BM.s = ms.map BM.s ∧ Ko w w' := by
  refine (pushed_any W.heap.size B lv bv sv ms cb t0 w h.n.ql.k h0 h.n.ql.ag a n c (by rw [h.n.ql.li]; exact h.n.ql.ls.li) hn kd oc os oi e tw he).mono ?_
  rintro r w' ⟨rfl, ms', k1, k2, k3, k4⟩
  obtain ⟨h1, h2⟩ := h.book k4 k1 k2 (by rw [push_lis]; exact h.n.ql.li)
  exact ⟨rfl, ms', h1, k3, h2⟩
theorem QPI.popped (h : QPI W P G cq t B lv bv sv ms cb a l2 p tv ts gp N2 pc ps w) {t0 : TN} (h0 : QOk cb t0) (i : Nat) (x : Int × Int) (M' : List (Int × Int)) (hi : i < cb.length) (hL : (cAt cb i).L = x :: M') (K : Int) (hs : Sv K ms) (hK : K ≤ 900000000000000000) : Calls Try.prog 21 #[.pointer (some ⟨B, 0, none⟩), .int .i64 x.1, .int .i64 (i : Nat)] w fun r w' => r = .returned (.bool true) ∧ ∃ ms', QPI W P G cq t B lv bv sv ms' (cb.set i (takeC (cAt cb i))) a l2 p tv ts gp N2 pc ps w' ∧ Sv (K + 65535) ms' ∧ (∀ (j : Nat) (m' : BM), ms'[j]? = some m' → ∃ m, ms[j]? = some m ∧ m'.s = m.s + (if j = i then x.2 else 0)) ∧ Kb w w' := by
  have hml : i < ms.length := by rw [h.n.ql.ag.len]; exact hi
  obtain ⟨m, hm⟩ : ∃ m, ms[i]? = some m := ⟨_, List.getElem?_eq_getElem hml⟩
  have hag := h.n.ql.ag.at' i m hm
  have hco := h0.c hi
  have hx := hco.el x (by rw [hL]; exact List.mem_cons_self)
  have hb : -1000000000000 ≤ m.b ∧ m.b ≤ 1000000000000 := by
    have h1 := hco.sz
    have h2 := hco.li.by'.2
    have h3 := szL_nn hco.el
    rw [hag.2]
    omega
  have hsm := hs m (List.mem_of_getElem? hm)
  refine (popped_any W.heap.size B lv bv sv ms w h.n.ql.k i m x M' hm (by rw [hag.1, hL]) hb hx ⟨hsm.1, Int.le_trans hsm.2 hK⟩).mono ?_
  rintro r w' ⟨rfl, m', k1, k2, k3, k4, k5⟩
  obtain ⟨h1, h2⟩ := h.book (cb' := cb.set i (takeC (cAt cb i))) k5 k1 (h.n.ql.ag.set hi (by rw [k2]; show _ = (cAt cb i).L.tail; rw [hL]; rfl) (by rw [k3, hag.2]; show _ = szL (cAt cb i).L.tail; rw [szL_tail, hL]; rfl)) ((set_lis (c := takeC (cAt cb i)) rfl).trans h.n.ql.li)
  refine ⟨rfl, ms.set i m', h1, fun y hy => ?_, fun j y hy => ?_, Kb.ofCh k5 h.bbB⟩
  · rcases mem_set' hy with hy | rfl
    · have := hs y hy; omega
    · omega
  · by_cases e : j = i
    · subst e
      rw [List.getElem?_set_self hml, Option.some.injEq] at hy
      subst hy
      exact ⟨m, hm, by rw [if_pos rfl, k4]⟩
    · rw [List.getElem?_set_ne (fun e' => e e'.symm)] at hy
      exact ⟨y, hy, by rw [if_neg e]; omega⟩
end
section
variable {W : World} {P G : Nat} {t : TN} {B : Nat} {lv bv sv : Value} {ms : List BM} {a : Option Addr} {l2 : List LI} {p : Nat} {tv : Value} {gp N2 pc : Nat} {ps : List (Int × Int)} {w : World}
theorem QPI.ptick {cs : List CL} {t0 : TN} (h : QPI W P G (cs.map fillC) t B lv bv sv ms (cs.map fillC) a l2 p tv (cs.map CL.tk) gp N2 pc ps w) (hq : QOk cs t0) (hz : Tz cs) (n c : Nat) (hn : cs.length = n) : Calls Try.prog 28 #[.pointer (some ⟨p, 0, none⟩), .slice a n c] w fun e w' => e = .returned (.tuple #[]) ∧ QPI W P G (cs.map fillC) t B lv bv sv ms (cs.map fillC) a l2 p tv ((cs.map fillC).map CL.tk) gp N2 pc ps w' := by
  have hli : cs.map CL.li = l2 := by have h1 := h.n.ql.li; rwa [fill_lis] at h1
  have hl2 : l2.length = n := by rw [← hli, List.length_map]; exact hn
  have h8 := hq.len
  refine (ptick_any W.heap.size p tv (cs.map CL.tk) a n c l2 w h.n.pk h.n.ql.ls.li hl2 (by rw [List.length_map]; exact hn) (by omega) (by rw [← hli]; exact tk_w hq hz) (fun q x hx hq' e => ?_)).mono ?_
  · obtain ⟨h1, _, cc, hc⟩ := h.n.pk.t.kind q hq'
    rcases h.n.ql.ls.kd (by intro e0; rw [e0] at hl2; simp at hl2; omega) x hx with h2 | ⟨c2, h2⟩
    · omega
    · rw [e] at h2
      exact tk_ne hc h2 (by decide)
  · rintro e w' ⟨us, rfl, h1, h2, h3⟩
    rw [← hli] at h2
    have hu := tk_fill hq hz hn h2
    subst hu
    exact ⟨rfl, (h.setT h3 h1).1⟩
end
section
variable {W : World} {P G : Nat} {t : TN} {B : Nat} {lv bv sv : Value} {ms : List BM} {a : Option Addr} {l2 : List LI} {p : Nat} {tv : Value} {gp N2 pc : Nat} {ps : List (Int × Int)} {w : World} {cs : List CL}
theorem QPI.all (h : QPI W P G cs t B lv bv sv ms cs a l2 p tv (cs.map CL.tk) gp N2 pc ps w) (n c : Nat) (hn : cs.length = n) (hn8 : n ≤ 8) : Calls Try.prog 30 #[.slice a n c, .pointer (some ⟨B, 0, none⟩), .pointer (some ⟨p, 0, none⟩)] w fun e w' => ∃ va vc, e = .returned (.slice va n vc) ∧ GL 1 blL 4 w' w.heap.size (.slice va n vc) (rdL cs n) ∧ QPI W P G cs t B lv bv sv ms cs a l2 p tv (cs.map CL.tk) gp N2 pc ps w' ∧ Kb w w' := by
  refine (all_any h.n n c hn hn8).mono ?_
  rintro e w' ⟨v, rfl, h1, h2, h3⟩
  obtain ⟨va, vc, hv⟩ := h1.form
  rw [rdL_len] at hv
  subst hv
  exact ⟨va, vc, rfl, h1, h.below h3, Kb.ofCh (S := fun _ => False) (Ch.ofBelow h3) (fun _ x => x.elim)⟩
theorem QPI.even (h : QPI W P G cs t B lv bv sv ms cs a l2 p tv (cs.map CL.tk) gp N2 pc ps w) (n c : Nat) (hn : l2.length = n) (hn8 : 1 ≤ n ∧ n ≤ 8) (hN2 : N2 = n * n) (b1 b2 : Nat) (xa ya : Option Addr) (xc yc : Nat) (was is_ : List Bool) (hw1 : GL 1 blL 4 w b1 (.slice xa n xc) was) (hl1 : was.length = n) (hw2 : GL 1 blL 4 w b2 (.slice ya n yc) is_) (hl2 : is_.length = n) (cc : Nat) (size : Int) (hs : 0 ≤ size ∧ size ≤ 65535) (hq : ∀ l ∈ l2, 64 ≤ l.q ∧ l.q ≤ 65535) (hpb : PB 1000000000000 ps) (hb : ∀ (i j : Nat) (x y : LI) (r : Int × Int), l2[i]? = some x → l2[j]? = some y → was.getD i false = true → was.getD j false = true → is_.getD i false = true → is_.getD j false = true → evP was is_ n cc size ps (i * n + j) = r → (0 ≤ r.1 ∧ r.1 ≤ 1000000000000) ∧ (0 ≤ r.2 ∧ r.2 ≤ 1000000000000) ∧ r.1 * y.q - r.2 * x.q ≤ 2 * (x.q * y.q) + 65535 * (x.q + y.q)) : Calls Try.prog 31 #[.slice a n c, .slice (some ⟨gp, 0, none⟩) N2 pc, .slice xa n xc, .slice ya n yc, .int .i64 (cc : Int), .int .i64 size] w fun e w' => e = .returned (.bool true) ∧ QPI W P G cs t B lv bv sv ms cs a l2 p tv (cs.map CL.tk) gp N2 pc (evL was is_ n cc size ps) w' := by
  refine (even_any w a n c l2 W.heap.size (some ⟨gp, 0, none⟩) N2 pc ps b1 b2 xa ya xc yc was is_ cc size h.g hN2 hw1 hl1 hw2 hl2 h.n.ql.ls.li (fun g off ha q hq' e => ?_) hn hn8.2 hs hq hpb hb).mono ?_
  · have e1 : q = gp := by simp only [Value.ownBlock, Option.some.injEq] at hq'; exact hq'.symm
    subst e1
    obtain ⟨hW, cc1, hgp⟩ := h.kind
    subst e
    rcases h.n.ql.ls.kd (by intro e0; rw [e0] at hn; simp at hn; omega) _ ha with h2 | ⟨c2, h2⟩
    · have h2' : q < W.heap.size := h2
      omega
    · exact tk_ne hgp h2 (by decide)
  · rintro e w' ⟨rfl, h1, h2⟩
    exact ⟨rfl, h.setP h2 h1⟩
end
/-- QueueEven under way, in numbers: K Pops and other steps so far -/
structure EvP (l2 : List LI) (m : Nat) (cs : List CL) (t : TN) (ms : List BM) (ps : List (Int × Int)) (K : Int) : Prop where
  sv : Sv (65535 * K) ms
  tz : Tz cs
  h2 : H2 cs t
  len : cs.length = m
  pp : PP l2 m ps t
  pb : PB (65535 * K) ps
section
variable {l2 : List LI} {m : Nat} {cs : List CL} {t : TN} {ms : List BM} {ps : List (Int × Int)} {K : Int}
theorem EvP.mono {K' : Int} (h : EvP l2 m cs t ms ps K) (hk : K ≤ K') : EvP l2 m cs t ms ps K' := ⟨h.sv.mono (by omega), h.tz, h.h2, h.len, h.pp, h.pb.mono (by omega)⟩
theorem EvP.push {ms' : List BM} (h : EvP l2 m cs t ms ps K) (he : ms'.map BM.s = ms.map BM.s) (i s n : Int) : EvP l2 m (pushCs cs i s n) t ms' ps K := ⟨h.sv.same he, h.tz.push i s n, h.h2.li (push_len2 ..) (fun j => (push_lt cs i s n j).1), by rw [push_len2]; exact h.len, h.pp, h.pb⟩
theorem EvP.fill (h : EvP l2 m cs t ms ps K) : EvP l2 m (cs.map fillC) t ms ps K := ⟨h.sv, h.tz.fill, h.h2.li (List.length_map _) (fun j => by
  unfold cAt
  simp only [List.getD, List.getElem?_map]
  cases hc : cs[j]? with
  | none => rfl
  | some x => exact fill_li x), by rw [List.length_map]; exact h.len, h.pp, h.pb⟩
theorem EvP.pop {ms' : List BM} {j : Nat} {x : Int × Int} {M' : List (Int × Int)} (h : EvP l2 m cs t ms ps K) (hq : QOk cs t) (ha : anyR cs = true) (hl : cs.map CL.li = l2) (hc : popC cs t = (j : Int)) (hL : (cAt cs j).L = x :: M') (hsv : Sv (65535 * K + 65535) ms') (hK : 0 ≤ K) : EvP l2 m (popQ cs t) (popT cs t) ms' (evL (rdL cs m) (rdL (popQ cs t) m) m j x.2 ps) (K + 1) := by
  have hj : (fin cs t).at' = j := by
    unfold popC at hc
    rw [if_pos ha] at hc
    omega
  have hx : hdS (cAt cs j).L = x.2 := by rw [hL]; rfl
  obtain ⟨h1, h3⟩ := h.pp.pop hq h.h2 ha hl h.len
  rw [hj, hx] at h1
  have hu := ((run_fin hq ha).end' hq).1.tn.at'
  rw [hj] at hu
  have hs := (hq.c hu).hd
  rw [hx] at hs
  have hQ : popQ cs t = cs.set j (takeC (cAt cs j)) := by unfold popQ popCs; rw [if_pos ha, hj]
  refine ⟨hsv.mono (by omega), by rw [hQ]; exact h.tz.take hu, h3, by rw [hQ, List.length_set]; exact h.len, h1, ?_⟩
  have h4 := h.pb.evL (by omega) (rdL cs m) (rdL (popQ cs t) m) m j hs
  exact h4.mono (by omega)
theorem EvP.bound {j : Nat} {x0 : Int × Int} {M' : List (Int × Int)} (h : EvP l2 m cs t ms ps K) (hq : QOk cs t) (ha : anyR cs = true) (hl : cs.map CL.li = l2) (hc : popC cs t = (j : Int)) (hL : (cAt cs j).L = x0 :: M') (hK : 0 ≤ K ∧ K ≤ 3300000) (hlw : ∀ l ∈ l2, 64 ≤ l.q ∧ l.q ≤ 65535) :
    ∀ (i k : Nat) (x y : LI) (r : Int × Int), l2[i]? = some x → l2[k]? = some y → (rdL cs m).getD i false = true → (rdL cs m).getD k false = true → (rdL (popQ cs t) m).getD i false = true → (rdL (popQ cs t) m).getD k false = true → evP (rdL cs m) (rdL (popQ cs t) m) m j x0.2 ps (i * m + k) = r → (0 ≤ r.1 ∧ r.1 ≤ 1000000000000) ∧ (0 ≤ r.2 ∧ r.2 ≤ 1000000000000) ∧ r.1 * y.q - r.2 * x.q ≤ 2 * (x.q * y.q) + 65535 * (x.q + y.q) := by
  have hj : (fin cs t).at' = j := by
    unfold popC at hc
    rw [if_pos ha] at hc
    omega
  have hx : hdS (cAt cs j).L = x0.2 := by rw [hL]; rfl
  have h1 := h.pp.bound hq h.h2 ha hl h.len h.pb (by omega) (by omega) (fun l hl => by have := hlw l hl; omega)
  rw [hj, hx] at h1
  exact h1
end
end Go.Proofs.Ytclkcpdghpaboaa
