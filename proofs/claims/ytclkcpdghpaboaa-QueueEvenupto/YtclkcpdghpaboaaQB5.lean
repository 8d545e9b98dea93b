/-
  Layer 18: a queue and the caller's book beside one another, both under way.
-/
import Derived.Test.YtclkcpdghpaboaaQB4
namespace Go.Proofs.Ytclkcpdghpaboaa
open Go.RowKit Go.ChangeShapes Go.WideShapes

theorem LsK.ch {S : Nat → Prop} {W w w' : World} {a : Option Addr} {ls : List LI} (h : LsK W w a ls) (b : Below W.heap.size W w) (b' : Below W.heap.size W w') (k : Ch S w w') (hS : ∀ q, S q → ∃ cc ty, w.heap[q]? = some (.cells cc ty (0, 0)) ∧ ty ≠ 36) : LsK W w' a ls := by
  by_cases h0 : ls = []
  · exact ⟨.inl h0, fun h1 => absurd h0 h1⟩
  · have key : ∀ (q : Nat) (cc : Array Value), w.heap[q]? = some (.cells cc 36 (0, 0)) → w'.heap[q]? = w.heap[q]? := fun q cc hc => k.block q (Array.getElem?_eq_some_iff.1 hc).1 (fun hs => by
      obtain ⟨c', ty, h1, h2⟩ := hS q hs
      exact tk_ne h1 hc h2)
    have keyb : ∀ x, a = some x → w'.heap[x.block]? = w.heap[x.block]? := fun x hx => by
      rcases h.kd h0 x hx with h1 | ⟨cc, h1⟩
      · rw [b'.block _ h1, b.block _ h1]
      · exact key _ cc h1
    refine ⟨?_, fun h0 x hx => (h.kd h0 x hx).imp id (fun ⟨cc, h1⟩ => ⟨cc, (key _ cc h1).trans h1⟩)⟩
    rcases h.li with h0 | ⟨bl, off, ha, hlt, hc⟩
    · exact .inl h0
    · have hb := keyb ⟨bl, off, none⟩ ha
      refine .inr ⟨bl, off, ha, Nat.lt_of_lt_of_le hlt k.size, fun i o ho => ⟨(hc i o ho).1, fun j hj => ?_⟩⟩
      rw [← (hc i o ho).2 j hj]
      exact World.cell?_of_block hb
theorem OpvAt.kq {w w' : World} {O : Nat} {o : OV} (h : OpvAt w O o) (k : Kp w w') : OpvAt w' O o := k.block O _ _ h (by decide) (by decide) (by decide)
/-- steps stand -/
def Ko (w w' : World) : Prop := w.heap.size ≤ w'.heap.size ∧ ∀ (O : Nat) (o : OV), OpvAt w O o → OpvAt w' O o
theorem Ko.trans {a b c : World} (h : Ko a b) (k : Ko b c) : Ko a c := ⟨Nat.le_trans h.1 k.1, fun O o x => k.2 O o (h.2 O o x)⟩
theorem Ko.ofBelow {a b : World} (h : Below a.heap.size a b) : Ko a b := ⟨h.size, fun _ _ x => x.below h⟩
theorem Ko.ofKp {a b : World} (h : Kp a b) : Ko a b := ⟨h.size, fun _ _ x => x.kq h⟩
/-- the queue (its classes cq) and the book, which tells of cb -/
structure QL (W : World) (P G : Nat) (cq : List CL) (t : TN) (B : Nat) (lv bv sv : Value) (ms : List BM) (cb : List CL) (a : Option Addr) (l2 : List LI) (w : World) : Prop where
  q : Q1 W P G cq t w
  k : BK W.heap.size w B lv bv sv ms
  ag : Ag ms cb
  li : cb.map CL.li = l2
  ls : LsK W w a l2
section
variable {W : World} {P G : Nat} {cq : List CL} {t : TN} {B : Nat} {lv bv sv : Value} {ms : List BM} {cb : List CL} {a : Option Addr} {l2 : List LI} {w : World}
theorem QL.below {w' : World} (h : QL W P G cq t B lv bv sv ms cb a l2 w) (b : Below w.heap.size w w') : QL W P G cq t B lv bv sv ms cb a l2 w' :=
  ⟨h.q.below b, h.k.below b, h.ag, h.li, h.ls.keep h.q.bel (h.q.below b).bel (Kp.ofBelow b)⟩
/-- a step's box is written -/
theorem QL.box {w' : World} {O : Nat} {o : OV} (h : QL W P G cq t B lv bv sv ms cb a l2 w) (k : Ch (fun q => q = O) w w') (hO : OpvAt w O o) (hW : W.heap.size ≤ O) : QL W P G cq t B lv bv sv ms cb a l2 w' := by
  have hq : Q1 W P G cq t w' := h.q.ch k (fun q e => by have e' : q = O := e; subst e'; exact ⟨hW, _, _, hO, by decide, by decide, by decide⟩)
  refine ⟨hq, h.k.ch k (fun q hq' e => ?_), h.ag, h.li, h.ls.ch h.q.bel hq.bel k (fun q e => ?_)⟩
  · have e' : q = O := e
    subst e'
    obtain ⟨_, _, cc, ty, h1, _, _, _, _, h2⟩ := h.k.kind hq'
    exact tk_ne h1 hO h2
  · have e' : q = O := e
    subst e'
    exact ⟨_, _, hO, by decide⟩
/-- what changes are the book's blocks alone -/
theorem QL.book {w' : World} {ms' : List BM} {cb' : List CL} (h : QL W P G cq t B lv bv sv ms cb a l2 w) (k : Ch (BB B lv bv sv ms) w w') (hk : BK W.heap.size w' B lv bv sv ms') (hag : Ag ms' cb') (hli : cb'.map CL.li = l2) : QL W P G cq t B lv bv sv ms' cb' a l2 w' ∧ Ko w w' := by
  have hq : Q1 W P G cq t w' := h.q.ch k (fun q e => by
    obtain ⟨h1, _, cc, ty, h3, h4, h5, h6, _⟩ := h.k.kind e
    exact ⟨h1, cc, ty, h3, h4, h5, h6⟩)
  refine ⟨⟨hq, hk, hag, hli, h.ls.ch h.q.bel hq.bel k (fun q e => ?_)⟩, k.size, fun O o hO => hO.ch k (fun e => ?_)⟩
  · obtain ⟨_, _, cc, ty, h3, _, _, _, h4, _⟩ := h.k.kind e
    exact ⟨cc, ty, h3, h4⟩
  · obtain ⟨_, _, cc, ty, h3, _, _, _, _, h4⟩ := h.k.kind e
    exact tk_ne h3 hO h4
theorem QL.kp {w' : World} {cq' : List CL} {t' : TN} (h : QL W P G cq t B lv bv sv ms cb a l2 w) (hq : Q1 W P G cq' t' w') (k : Kp w w') : QL W P G cq' t' B lv bv sv ms cb a l2 w' ∧ Ko w w' :=
  ⟨⟨hq, h.k.kp k, h.ag, h.li, h.ls.keep h.q.bel hq.bel k⟩, Ko.ofKp k⟩
theorem QL.push (h : QL W P G cq t B lv bv sv ms cb a l2 w) (i size number : Int) : Calls Try.prog 16 #[.pointer (some ⟨P, 0, none⟩), .int .i64 i, .int .i64 size, .int .i64 number] w fun e w' => e = .returned (.int .i64 (pushE cq i size)) ∧ QL W P G (pushCs cq i size number) t B lv bv sv ms cb a l2 w' ∧ Ko w w' := by
  refine (h.q.push i size number).mono ?_
  rintro e w' ⟨rfl, q', k'⟩
  exact ⟨rfl, h.kp q' k'⟩
theorem QL.pop (h : QL W P G cq t B lv bv sv ms cb a l2 w) : Calls Try.prog 17 #[.pointer (some ⟨P, 0, none⟩)] w fun e w' => e = .returned (.tuple #[.int .i64 (popN cq t), .int .i64 (popC cq t), .bool (anyR cq)]) ∧ QL W P G (popQ cq t) (popT cq t) B lv bv sv ms cb a l2 w' ∧ Ko w w' := by
  refine h.q.pop.mono ?_
  rintro e w' ⟨rfl, q', k'⟩
  exact ⟨rfl, h.kp q' k'⟩
theorem QL.peek (h : QL W P G cq t B lv bv sv ms cb a l2 w) : Calls Try.prog 23 #[.pointer (some ⟨P, 0, none⟩)] w fun e w' => e = .returned (.tuple #[.int .i64 (popN cq t), .int .i64 (popC cq t), .bool (anyR cq)]) ∧ QL W P G cq t B lv bv sv ms cb a l2 w' ∧ Below w.heap.size w w' := by
  refine h.q.peek.mono ?_
  rintro e w' ⟨rfl, q', b'⟩
  exact ⟨rfl, h.below b', b'⟩
theorem Ag.fill {ms : List BM} {cs : List CL} (h : Ag ms cs) : Ag ms (cs.map fillC) := by
  refine ⟨by rw [List.length_map]; exact h.len, fun i m hm => ?_⟩
  have hi : i < cs.length := by rw [← h.len]; exact (List.getElem?_eq_some_iff.1 hm).1
  rw [cAt_map cs i hi, fill_L]
  exact h.at' i m hm
theorem fill_lis (cs : List CL) : (cs.map fillC).map CL.li = cs.map CL.li := by
  rw [List.map_map]
  exact List.map_congr_left (fun c _ => fill_li c)
theorem QL.tick {cs : List CL} (h : QL W P G cs t B lv bv sv ms cs a l2 w) : Calls Try.prog 26 #[.pointer (some ⟨P, 0, none⟩)] w fun e w' => e = .returned (.tuple #[]) ∧ QL W P G (cs.map fillC) t B lv bv sv ms (cs.map fillC) a l2 w' ∧ Ko w w' := by
  refine h.q.tick.mono ?_
  rintro e w' ⟨rfl, q', k'⟩
  obtain ⟨h1, h2⟩ := h.kp q' k'
  exact ⟨rfl, ⟨h1.q, h1.k, h1.ag.fill, by rw [fill_lis]; exact h1.li, h1.ls⟩, h2⟩
theorem set_lis {cs : List CL} {i : Nat} {c : CL} (hc : c.li = (cAt cs i).li) : (cs.set i c).map CL.li = cs.map CL.li := by
  rw [List.map_set, hc]
  apply List.ext_getElem?
  intro j
  by_cases e : i = j
  · subst e
    by_cases hi : i < cs.length
    · rw [List.getElem?_set_self (by rw [List.length_map]; exact hi), List.getElem?_map, cAt_get hi]
      rfl
    · rw [List.getElem?_eq_none (by simp; omega), List.getElem?_eq_none (by simp; omega)]
  · rw [List.getElem?_set_ne e]
theorem push_lis (cs : List CL) (i s n : Int) : (pushCs cs i s n).map CL.li = cs.map CL.li := by
  unfold pushCs
  split
  · exact set_lis rfl
  · rfl
/-- the book behind a Push; the queue has gone ahead of it -/
theorem QL.pushed {t0 : TN} (h : QL W P G cq t B lv bv sv ms cb a l2 w) (h0 : QOk cb t0) (n c : Nat) (hn : cb.length = n) (kd oc os oi e : Int) (tw : Bool) (he : e = pushE cb oc os) : Calls Try.prog 19 #[.pointer (some ⟨B, 0, none⟩), .slice a n c, .agg (opC ⟨kd, tw, oc, os, oi⟩), .int .i64 e] w fun r w' => r = .returned (.bool true) ∧ ∃ ms', QL W P G cq t B lv bv sv ms' (pushCs cb oc os oi) a l2 w' ∧ ms'.map BM.s = ms.map BM.s ∧ Ko w w' := by
  refine (pushed_any W.heap.size B lv bv sv ms cb t0 w h.k h0 h.ag a n c (by rw [h.li]; exact h.ls.li) hn kd oc os oi e tw he).mono ?_
  rintro r w' ⟨rfl, ms', k1, k2, k3, k4⟩
  obtain ⟨h1, h2⟩ := h.book k4 k1 k2 (by rw [push_lis]; exact h.li)
  exact ⟨rfl, ms', h1, k3, h2⟩
theorem QL.agrees {cs : List CL} (h : QL W P G cs t B lv bv sv ms cs a l2 w) : Calls Try.prog 32 #[.pointer (some ⟨B, 0, none⟩), .pointer (some ⟨P, 0, none⟩)] w fun r w' => r = .returned (.bool true) ∧ QL W P G cs t B lv bv sv ms cs a l2 w' ∧ Below w.heap.size w w' := by
  refine (agrees_any W.heap.size B lv bv sv ms W P G cs t w h.k h.q h.ag).mono ?_
  rintro r w' ⟨rfl, q', b'⟩
  exact ⟨rfl, h.below b', b'⟩
end
/-- what a Pop takes -/
theorem pop_at {cs : List CL} {t : TN} (h : QOk cs t) (ha : anyR cs = true) : ∃ (i : Nat) (x : Int × Int) (M' : List (Int × Int)), i < cs.length ∧ (cAt cs i).rdy = true ∧ (cAt cs i).L = x :: M' ∧ popN cs t = x.1 ∧ popC cs t = (i : Int) ∧ popQ cs t = cs.set i (takeC (cAt cs i)) := by
  obtain ⟨hq, hr, _, _⟩ := (run_fin h ha).end' h
  cases hL : (cAt cs (fin cs t).at').L with
  | nil => exact absurd hL (rdy_ne hr)
  | cons x M' =>
    refine ⟨(fin cs t).at', x, M', hq.tn.at', hr, hL, ?_, ?_, ?_⟩
    · unfold popN; rw [if_pos ha, hL]; rfl
    · unfold popC; rw [if_pos ha]
    · unfold popQ popCs; rw [if_pos ha]
/-- what was served so far is at most K of each -/
def Sv (K : Int) (ms : List BM) : Prop := ∀ m ∈ ms, 0 ≤ m.s ∧ m.s ≤ K
theorem Sv.same {K : Int} {ms ms' : List BM} (h : Sv K ms) (he : ms'.map BM.s = ms.map BM.s) : Sv K ms' := fun m hm => by
  have h1 : m.s ∈ ms'.map BM.s := List.mem_map_of_mem hm
  rw [he] at h1
  obtain ⟨m', hm', e⟩ := List.mem_map.1 h1
  rw [← e]
  exact h m' hm'
theorem Sv.mono {K K' : Int} {ms : List BM} (h : Sv K ms) (hk : K ≤ K') : Sv K' ms := fun m hm => ⟨(h m hm).1, Int.le_trans (h m hm).2 hk⟩
theorem Sv.zero (n : Nat) : Sv 0 (List.replicate n m0) := fun m hm => by rw [List.eq_of_mem_replicate hm]; exact ⟨Int.le_refl _, Int.le_refl _⟩
section
variable {W : World} {P G : Nat} {cq : List CL} {t : TN} {B : Nat} {lv bv sv : Value} {ms : List BM} {cb : List CL} {a : Option Addr} {l2 : List LI} {w : World}
/-- the book behind a Pop of class i -/
theorem QL.popped (h : QL W P G cq t B lv bv sv ms cb a l2 w) {t0 : TN} (h0 : QOk cb t0) (i : Nat) (x : Int × Int) (M' : List (Int × Int)) (hi : i < cb.length) (hL : (cAt cb i).L = x :: M') (K : Int) (hs : Sv K ms) (hK : K ≤ 900000000000000000) : Calls Try.prog 21 #[.pointer (some ⟨B, 0, none⟩), .int .i64 x.1, .int .i64 (i : Nat)] w fun r w' => r = .returned (.bool true) ∧ ∃ ms', QL W P G cq t B lv bv sv ms' (cb.set i (takeC (cAt cb i))) a l2 w' ∧ Sv (K + 65535) ms' ∧ (∀ m m', ms[i]? = some m → ms'[i]? = some m' → m'.s = m.s + x.2) ∧ (∀ j, j ≠ i → ms'[j]? = ms[j]?) ∧ Ko w w' := by
  have hml : i < ms.length := by rw [h.ag.len]; exact hi
  obtain ⟨m, hm⟩ : ∃ m, ms[i]? = some m := ⟨_, List.getElem?_eq_getElem hml⟩
  have hag := h.ag.at' i m hm
  have hco := h0.c hi
  have hx := hco.el x (by rw [hL]; exact List.mem_cons_self)
  have hb : -1000000000000 ≤ m.b ∧ m.b ≤ 1000000000000 := by
    have h1 := hco.sz
    have h2 := hco.li.by'.2
    have h3 := szL_nn hco.el
    rw [hag.2]
    omega
  have hsm := hs m (List.mem_of_getElem? hm)
  refine (popped_any W.heap.size B lv bv sv ms w h.k i m x M' hm (by rw [hag.1, hL]) hb hx ⟨hsm.1, Int.le_trans hsm.2 hK⟩).mono ?_
  rintro r w' ⟨rfl, m', k1, k2, k3, k4, k5⟩
  obtain ⟨h1, h2⟩ := h.book (cb' := cb.set i (takeC (cAt cb i))) k5 k1 (h.ag.set hi (by rw [k2]; show _ = (cAt cb i).L.tail; rw [hL]; rfl) (by rw [k3, hag.2]; show _ = szL (cAt cb i).L.tail; rw [szL_tail, hL]; rfl)) ((set_lis (c := takeC (cAt cb i)) rfl).trans h.li)
  refine ⟨rfl, ms.set i m', h1, fun y hy => ?_, fun m1 m2 e1 e2 => ?_, fun j hj => List.getElem?_set_ne (fun e => hj e.symm), h2⟩
  · rcases mem_set' hy with hy | rfl
    · have := hs y hy; omega
    · omega
  · rw [hm, Option.some.injEq] at e1
    rw [List.getElem?_set_self hml, Option.some.injEq] at e2
    rw [← e1, ← e2, k4]
/-- an empty book beside a new queue -/
theorem QL.first {l2 : List LI} (hq : Q1 W P G (c0s l2) tz w) (hk : BK W.heap.size w B lv bv sv (List.replicate l2.length m0)) (hl : LsK W w a l2) : QL W P G (c0s l2) tz B lv bv sv (List.replicate l2.length m0) (c0s l2) a l2 w := by
  refine ⟨hq, hk, ⟨by unfold c0s; simp, fun i m hm => ?_⟩, ?_, hl⟩
  · have hi := (List.getElem?_eq_some_iff.1 hm).1
    rw [List.length_replicate] at hi
    rw [List.eq_of_mem_replicate (List.mem_of_getElem? hm)]
    have hc : cAt (c0s l2) i = ⟨l2[i], [], l2[i].bu⟩ := cAt_some (by unfold c0s; simp [hi])
    rw [hc]
    exact ⟨rfl, rfl⟩
  · unfold c0s
    rw [List.map_map]
    exact List.map_id _
end
end Go.Proofs.Ytclkcpdghpaboaa
