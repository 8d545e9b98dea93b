/-
  Layer 18: queue, book and purse beside one another, under way; what the tokens say of what was served.
-/
import Derived.Test.YtclkcpdghpaboaaQB7
namespace Go.Proofs.Ytclkcpdghpaboaa
open Go.RowKit Go.ChangeShapes Go.WideShapes

structure QNI (W : World) (P G : Nat) (cq : List CL) (t : TN) (B : Nat) (lv bv sv : Value) (ms : List BM) (cb : List CL) (a : Option Addr) (l2 : List LI) (p : Nat) (tv : Value) (ts : List Int) (w : World) : Prop where
  ql : QL W P G cq t B lv bv sv ms cb a l2 w
  pk : PK W.heap.size w p tv ts
  ne : ∀ q, tv.ownBlock = some q → bv.ownBlock ≠ some q ∧ sv.ownBlock ≠ some q
section
variable {W : World} {P G : Nat} {cq : List CL} {t : TN} {B : Nat} {lv bv sv : Value} {ms : List BM} {cb : List CL} {a : Option Addr} {l2 : List LI} {p : Nat} {tv : Value} {ts : List Int} {w : World}
theorem QNI.below {w' : World} (h : QNI W P G cq t B lv bv sv ms cb a l2 p tv ts w) (b : Below w.heap.size w w') : QNI W P G cq t B lv bv sv ms cb a l2 p tv ts w' := ⟨h.ql.below b, h.pk.below b, h.ne⟩
theorem QNI.kp {w' : World} {cq' : List CL} {t' : TN} (h : QNI W P G cq t B lv bv sv ms cb a l2 p tv ts w) (hq : Q1 W P G cq' t' w') (k : Kp w w') : QNI W P G cq' t' B lv bv sv ms cb a l2 p tv ts w' ∧ Ko w w' :=
  ⟨⟨(h.ql.kp hq k).1, h.pk.kp k, h.ne⟩, Ko.ofKp k⟩
theorem QNI.box {w' : World} {O : Nat} {o : OV} (h : QNI W P G cq t B lv bv sv ms cb a l2 p tv ts w) (k : Ch (fun q => q = O) w w') (hO : OpvAt w O o) (hW : W.heap.size ≤ O) : QNI W P G cq t B lv bv sv ms cb a l2 p tv ts w' := by
  refine ⟨h.ql.box k hO hW, h.pk.ch k (fun e => ?_) (fun q hq e => ?_), h.ne⟩
  · have e' : p = O := e
    subst e'
    exact tk_ne h.pk.at' hO (by decide)
  · have e' : q = O := e
    subst e'
    obtain ⟨_, _, c, hc⟩ := h.pk.t.kind q hq
    exact tk_ne hc hO (by decide)
/-- the book's blocks are none of the purse's -/
theorem QNI.apart (h : QNI W P G cq t B lv bv sv ms cb a l2 p tv ts w) : ¬ BB B lv bv sv ms p ∧ ∀ q, tv.ownBlock = some q → ¬ BB B lv bv sv ms q := by
  constructor
  · rintro (e | e | e | e | ⟨m, hm, e⟩)
    · have h1 := h.pk.at'; rw [e] at h1; exact tk_ne h1 h.ql.k.at' (by decide)
    · obtain ⟨_, _, c, hc⟩ := h.ql.k.l.kind p e; exact tk_ne h.pk.at' hc (by decide)
    · obtain ⟨_, _, c, hc⟩ := h.ql.k.by'.kind p e; exact tk_ne h.pk.at' hc (by decide)
    · obtain ⟨_, _, c, hc⟩ := h.ql.k.s.kind p e; exact tk_ne h.pk.at' hc (by decide)
    · obtain ⟨_, _, c, hc⟩ := (h.ql.k.ln m hm).kind e; exact tk_ne h.pk.at' hc (by decide)
  · intro q hq
    obtain ⟨_, _, c0, hc0⟩ := h.pk.t.kind q hq
    rintro (e | e | e | e | ⟨m, hm, e⟩)
    · rw [e] at hc0; exact tk_ne hc0 h.ql.k.at' (by decide)
    · obtain ⟨_, _, c, hc⟩ := h.ql.k.l.kind q e; exact tk_ne hc0 hc (by decide)
    · exact (h.ne q hq).1 e
    · exact (h.ne q hq).2 e
    · obtain ⟨_, _, c, hc⟩ := (h.ql.k.ln m hm).kind e; exact tk_ne hc0 hc (by decide)
theorem QNI.book {w' : World} {ms' : List BM} {cb' : List CL} (h : QNI W P G cq t B lv bv sv ms cb a l2 p tv ts w) (k : Ch (BB B lv bv sv ms) w w') (hk : BK W.heap.size w' B lv bv sv ms') (hag : Ag ms' cb') (hli : cb'.map CL.li = l2) : QNI W P G cq t B lv bv sv ms' cb' a l2 p tv ts w' ∧ Ko w w' := by
  obtain ⟨h1, h2⟩ := h.ql.book k hk hag hli
  exact ⟨⟨h1, h.pk.ch k h.apart.1 h.apart.2, h.ne⟩, h2⟩
/-- the purse's row alone is written -/
theorem QNI.setT {w' : World} {ts' : List Int} (h : QNI W P G cq t B lv bv sv ms cb a l2 p tv ts w) (k : Ch (fun q => tv.ownBlock = some q) w w') (hp : PK W.heap.size w' p tv ts') : QNI W P G cq t B lv bv sv ms cb a l2 p tv ts' w' ∧ Ko w w' := by
  have hk : ∀ q, tv.ownBlock = some q → W.heap.size ≤ q ∧ ∃ cc, w.heap[q]? = some (.cells cc 3 (0, 0)) := fun q hq => by
    obtain ⟨h1, _, c, hc⟩ := h.pk.t.kind q hq
    exact ⟨h1, c, hc⟩
  have hq : Q1 W P G cq t w' := h.ql.q.ch k (fun q e => by
    obtain ⟨h1, cc, hc⟩ := hk q e
    exact ⟨h1, cc, _, hc, by decide, by decide, by decide⟩)
  refine ⟨⟨⟨hq, h.ql.k.ch k (fun q hb e => h.apart.2 q e hb), h.ql.ag, h.ql.li, h.ql.ls.ch h.ql.q.bel hq.bel k (fun q e => ?_)⟩, hp, h.ne⟩, k.size, fun O o hO => hO.ch k (fun e => ?_)⟩
  · obtain ⟨_, cc, hc⟩ := hk q e
    exact ⟨cc, _, hc, by decide⟩
  · obtain ⟨_, cc, hc⟩ := hk O e
    exact tk_ne hc hO (by decide)
theorem QNI.push (h : QNI W P G cq t B lv bv sv ms cb a l2 p tv ts w) (i size number : Int) : Calls Try.prog 16 #[.pointer (some ⟨P, 0, none⟩), .int .i64 i, .int .i64 size, .int .i64 number] w fun e w' => e = .returned (.int .i64 (pushE cq i size)) ∧ QNI W P G (pushCs cq i size number) t B lv bv sv ms cb a l2 p tv ts w' ∧ Ko w w' := by
  refine (h.ql.q.push i size number).mono ?_
  rintro e w' ⟨rfl, q', k'⟩
  exact ⟨rfl, h.kp q' k'⟩
theorem QNI.pop (h : QNI W P G cq t B lv bv sv ms cb a l2 p tv ts w) : Calls Try.prog 17 #[.pointer (some ⟨P, 0, none⟩)] w fun e w' => e = .returned (.tuple #[.int .i64 (popN cq t), .int .i64 (popC cq t), .bool (anyR cq)]) ∧ QNI W P G (popQ cq t) (popT cq t) B lv bv sv ms cb a l2 p tv ts w' ∧ Ko w w' := by
  refine h.ql.q.pop.mono ?_
  rintro e w' ⟨rfl, q', k'⟩
  exact ⟨rfl, h.kp q' k'⟩
theorem QNI.peek (h : QNI W P G cq t B lv bv sv ms cb a l2 p tv ts w) : Calls Try.prog 23 #[.pointer (some ⟨P, 0, none⟩)] w fun e w' => e = .returned (.tuple #[.int .i64 (popN cq t), .int .i64 (popC cq t), .bool (anyR cq)]) ∧ QNI W P G cq t B lv bv sv ms cb a l2 p tv ts w' := by
  refine h.ql.q.peek.mono ?_
  rintro e w' ⟨rfl, q', b'⟩
  exact ⟨rfl, h.below b'⟩
theorem QNI.qtick {cs : List CL} (h : QNI W P G cs t B lv bv sv ms cs a l2 p tv ts w) : Calls Try.prog 26 #[.pointer (some ⟨P, 0, none⟩)] w fun e w' => e = .returned (.tuple #[]) ∧ QNI W P G (cs.map fillC) t B lv bv sv ms (cs.map fillC) a l2 p tv ts w' := by
  refine h.ql.q.tick.mono ?_
  rintro e w' ⟨rfl, q', k'⟩
  obtain ⟨h1, h2⟩ := h.kp q' k'
  exact ⟨rfl, ⟨⟨h1.ql.q, h1.ql.k, h1.ql.ag.fill, by rw [fill_lis]; exact h1.ql.li, h1.ql.ls⟩, h1.pk, h1.ne⟩⟩
theorem QNI.pushed {t0 : TN} (h : QNI W P G cq t B lv bv sv ms cb a l2 p tv ts w) (h0 : QOk cb t0) (n c : Nat) (hn : cb.length = n) (kd oc os oi e : Int) (tw : Bool) (he : e = pushE cb oc os) : Calls Try.prog 19 #[.pointer (some ⟨B, 0, none⟩), .slice a n c, .agg (opC ⟨kd, tw, oc, os, oi⟩), .int .i64 e] w fun r w' => r = .returned (.bool true) ∧ ∃ ms', QNI W P G cq t B lv bv sv ms' (pushCs cb oc os oi) a l2 p tv ts w' ∧ ms'.map BM.s = ms.map BM.s ∧ Ko w w' := by
  refine (pushed_any W.heap.size B lv bv sv ms cb t0 w h.ql.k h0 h.ql.ag a n c (by rw [h.ql.li]; exact h.ql.ls.li) hn kd oc os oi e tw he).mono ?_
  rintro r w' ⟨rfl, ms', k1, k2, k3, k4⟩
  obtain ⟨h1, h2⟩ := h.book k4 k1 k2 (by rw [push_lis]; exact h.ql.li)
  exact ⟨rfl, ms', h1, k3, h2⟩
theorem QNI.popped (h : QNI W P G cq t B lv bv sv ms cb a l2 p tv ts w) {t0 : TN} (h0 : QOk cb t0) (i : Nat) (x : Int × Int) (M' : List (Int × Int)) (hi : i < cb.length) (hL : (cAt cb i).L = x :: M') (K : Int) (hs : Sv K ms) (hK : K ≤ 900000000000000000) : Calls Try.prog 21 #[.pointer (some ⟨B, 0, none⟩), .int .i64 x.1, .int .i64 (i : Nat)] w fun r w' => r = .returned (.bool true) ∧ ∃ ms', QNI W P G cq t B lv bv sv ms' (cb.set i (takeC (cAt cb i))) a l2 p tv ts w' ∧ Sv (K + 65535) ms' ∧ (∀ (j : Nat) (m' : BM), ms'[j]? = some m' → ∃ m, ms[j]? = some m ∧ m'.s = m.s + (if j = i then x.2 else 0)) := by
  have hml : i < ms.length := by rw [h.ql.ag.len]; exact hi
  obtain ⟨m, hm⟩ : ∃ m, ms[i]? = some m := ⟨_, List.getElem?_eq_getElem hml⟩
  have hag := h.ql.ag.at' i m hm
  have hco := h0.c hi
  have hx := hco.el x (by rw [hL]; exact List.mem_cons_self)
  have hb : -1000000000000 ≤ m.b ∧ m.b ≤ 1000000000000 := by
    have h1 := hco.sz
    have h2 := hco.li.by'.2
    have h3 := szL_nn hco.el
    rw [hag.2]
    omega
  have hsm := hs m (List.mem_of_getElem? hm)
  refine (popped_any W.heap.size B lv bv sv ms w h.ql.k i m x M' hm (by rw [hag.1, hL]) hb hx ⟨hsm.1, Int.le_trans hsm.2 hK⟩).mono ?_
  rintro r w' ⟨rfl, m', k1, k2, k3, k4, k5⟩
  obtain ⟨h1, h2⟩ := h.book (cb' := cb.set i (takeC (cAt cb i))) k5 k1 (h.ql.ag.set hi (by rw [k2]; show _ = (cAt cb i).L.tail; rw [hL]; rfl) (by rw [k3, hag.2]; show _ = szL (cAt cb i).L.tail; rw [szL_tail, hL]; rfl)) ((set_lis (c := takeC (cAt cb i)) rfl).trans h.ql.li)
  refine ⟨rfl, ms.set i m', h1, fun y hy => ?_, fun j y hy => ?_⟩
  · rcases mem_set' hy with hy | rfl
    · have := hs y hy; omega
    · omega
  · by_cases e : j = i
    · subst e
      rw [List.getElem?_set_self hml, Option.some.injEq] at hy
      subst hy
      exact ⟨m, hm, by rw [if_pos rfl, k4]⟩
    · rw [List.getElem?_set_ne (fun e' => e e'.symm)] at hy
      exact ⟨y, hy, by rw [if_neg e]; omega⟩
theorem QNI.ready {cs : List CL} (h : QNI W P G cs t B lv bv sv ms cs a l2 p tv (cs.map CL.tk) w) (n c : Nat) (hn : cs.length = n) (i : Nat) (hi : i < n) : Calls Try.prog 29 #[.pointer (some ⟨p, 0, none⟩), .slice a n c, .pointer (some ⟨B, 0, none⟩), .int .i64 (i : Nat)] w fun r w' => r = .returned (.bool (cAt cs i).rdy) ∧ QNI W P G cs t B lv bv sv ms cs a l2 p tv (cs.map CL.tk) w' := by
  refine (pready_any W.heap.size W.heap.size B p lv bv sv tv ms cs t w h.ql.k h.pk h.ql.q.ok h.ql.ag a n c (by rw [h.ql.li]; exact h.ql.ls.li) hn i hi).mono ?_
  rintro r w' ⟨rfl, b'⟩
  exact ⟨rfl, h.below b'⟩
end
/-- a class that is not shaped keeps its tokens -/
structure Tz (cs : List CL) : Prop where
  z : ∀ c ∈ cs, c.li.ra = 0 → c.tk = c.li.bu
  w : ∀ c ∈ cs, LiW c.li
theorem Tz.push {cs : List CL} (h : Tz cs) (i s n : Int) : Tz (pushCs cs i s n) := by
  unfold pushCs
  split
  · rename_i h0
    obtain ⟨hi, _, _⟩ := push_zero h0
    have hm : cAt cs i.toNat ∈ cs := List.mem_of_getElem? (cAt_get hi.2)
    have h1 := h.z (cAt cs i.toNat) hm
    have h2 := h.w (cAt cs i.toNat) hm
    exact ⟨mem_set_cl h.z h1, mem_set_cl (P := fun c => LiW c.li) h.w h2⟩
  · exact h
theorem Tz.fill {cs : List CL} (h : Tz cs) : Tz (cs.map fillC) := by
  constructor
  · intro c hc hr
    obtain ⟨x, hx, rfl⟩ := List.mem_map.1 hc
    rw [fill_li] at hr ⊢
    unfold fillC
    rw [if_neg (by omega)]
    exact h.z x hx hr
  · intro c hc
    obtain ⟨x, hx, rfl⟩ := List.mem_map.1 hc
    rw [fill_li]
    exact h.w x hx
theorem Tz.take {cs : List CL} {i : Nat} (h : Tz cs) (hi : i < cs.length) : Tz (cs.set i (takeC (cAt cs i))) := by
  have hm : cAt cs i ∈ cs := List.mem_of_getElem? (cAt_get hi)
  have h2 := h.w (cAt cs i) hm
  refine ⟨mem_set_cl h.z (fun hr => ?_), mem_set_cl (P := fun c => LiW c.li) h.w h2⟩
  have hr' : (cAt cs i).li.ra = 0 := hr
  show (if 0 < (cAt cs i).li.ra then _ else (cAt cs i).tk) = (cAt cs i).li.bu
  rw [if_neg (by omega)]
  exact h.z _ hm hr'
theorem tk_w {cs : List CL} {t : TN} (hq : QOk cs t) (h : Tz cs) (j : Nat) (z : Int) (hz : (cs.map CL.tk)[j]? = some z) : W64 (z + (lAt (cs.map CL.li) j).ra) := by
  rw [List.getElem?_map] at hz
  cases hc : cs[j]? with
  | none => rw [hc] at hz; cases hz
  | some c =>
    rw [hc, Option.map_some, Option.some.injEq] at hz
    have hm := List.mem_of_getElem? hc
    have hl : lAt (cs.map CL.li) j = c.li := lAt_some (by rw [List.getElem?_map, hc]; rfl)
    have h1 := hq.cl c hm
    have h2 := h1.li.ra
    rw [hl, ← hz]
    unfold W64
    by_cases hr : c.li.ra = 0
    · have h3 := h.z c hm hr
      have h4 := (h.w c hm).bu
      unfold W64 at h4
      omega
    · have h3 := h1.tk (by omega)
      have h4 := h1.li.bu (by omega)
      omega
theorem tk_fill {cs : List CL} {t : TN} (hq : QOk cs t) (h : Tz cs) {n : Nat} (hn : cs.length = n) {us : List Int} (hu : Tkd (cs.map CL.li) (cs.map CL.tk) n us) : us = (cs.map fillC).map CL.tk := by
  apply List.ext_getElem?
  intro j
  have hl := hu.1
  rw [List.length_map] at hl
  by_cases hj : j < cs.length
  · have hc := cAt_get hj
    obtain ⟨c, hcc⟩ : ∃ c, cAt cs j = c := ⟨_, rfl⟩
    rw [hcc] at hc
    have hm := List.mem_of_getElem? hc
    have h1 := hu.2 j c.tk (by rw [List.getElem?_map, hc]; rfl)
    rw [if_pos (by omega), lAt_some (by rw [List.getElem?_map, hc]; rfl)] at h1
    rw [h1, List.map_map, List.getElem?_map, hc, Option.map_some]
    show some (tkF c.li c.tk) = some (fillC c).tk
    have h2 := (hq.cl c hm).li.ra
    unfold tkF fillC
    by_cases hr : c.li.ra = 0
    · have h3 := h.z c hm hr
      rw [if_neg (by omega), if_neg (by omega), hr]
      simp
    · rw [if_pos (show 0 < c.li.ra by omega)]
      show some (if c.li.bu < c.tk + c.li.ra then c.li.bu else c.tk + c.li.ra) = some (min (c.tk + c.li.ra) c.li.bu)
      congr 1
      split <;> omega
  · rw [List.getElem?_eq_none (by omega), List.getElem?_eq_none (by simp; omega)]
section
variable {W : World} {P G : Nat} {t : TN} {B : Nat} {lv bv sv : Value} {ms : List BM} {a : Option Addr} {l2 : List LI} {p : Nat} {tv : Value} {w : World}
theorem QNI.ptick {cs : List CL} {t0 : TN} (h : QNI W P G (cs.map fillC) t B lv bv sv ms (cs.map fillC) a l2 p tv (cs.map CL.tk) w) (hq : QOk cs t0) (hz : Tz cs) (n c : Nat) (hn : cs.length = n) : Calls Try.prog 28 #[.pointer (some ⟨p, 0, none⟩), .slice a n c] w fun e w' => e = .returned (.tuple #[]) ∧ QNI W P G (cs.map fillC) t B lv bv sv ms (cs.map fillC) a l2 p tv ((cs.map fillC).map CL.tk) w' := by
  have hli : cs.map CL.li = l2 := by have h1 := h.ql.li; rwa [fill_lis] at h1
  have hl2 : l2.length = n := by rw [← hli, List.length_map]; exact hn
  have h8 := hq.len
  refine (ptick_any W.heap.size p tv (cs.map CL.tk) a n c l2 w h.pk h.ql.ls.li hl2 (by rw [List.length_map]; exact hn) (by omega) (by rw [← hli]; exact tk_w hq hz) (fun q x hx hq' e => ?_)).mono ?_
  · obtain ⟨h1, _, cc, hc⟩ := h.pk.t.kind q hq'
    rcases h.ql.ls.kd (by intro e0; rw [e0] at hl2; simp at hl2; omega) x hx with h2 | ⟨c2, h2⟩
    · omega
    · rw [e] at h2
      exact tk_ne hc h2 (by decide)
  · rintro e w' ⟨us, rfl, h1, h2, h3⟩
    rw [← hli] at h2
    have hu := tk_fill hq hz hn h2
    subst hu
    exact ⟨rfl, (h.setT h3 h1).1⟩
end
/-- of a shaped class not more was served than its tokens -/
def Iv (k : Int) (cs : List CL) (ms : List BM) : Prop := k < 1000000 → ∀ (j : Nat) (m : BM), ms[j]? = some m → 0 < (cAt cs j).li.ra → m.s + (cAt cs j).tk ≤ (cAt cs j).li.bu + k * (cAt cs j).li.ra
theorem Iv.first (l2 : List LI) : Iv 0 (c0s l2) (List.replicate l2.length m0) := fun _ j m hm _ => by
  have hj := (List.getElem?_eq_some_iff.1 hm).1
  rw [List.length_replicate] at hj
  rw [List.eq_of_mem_replicate (List.mem_of_getElem? hm)]
  have hc : cAt (c0s l2) j = ⟨l2[j], [], l2[j].bu⟩ := cAt_some (by unfold c0s; simp [hj])
  rw [hc]
  show (0 : Int) + l2[j].bu ≤ l2[j].bu + 0 * l2[j].ra
  omega
theorem push_lt (cs : List CL) (i s n : Int) (j : Nat) : (cAt (pushCs cs i s n) j).li = (cAt cs j).li ∧ (cAt (pushCs cs i s n) j).tk = (cAt cs j).tk := by
  unfold pushCs
  split
  · rename_i h0
    obtain ⟨hi, _, _⟩ := push_zero h0
    by_cases e : j = i.toNat
    · subst e
      rw [cAt_set_same hi.2]
      exact ⟨rfl, rfl⟩
    · rw [cAt_set_ne e]
      exact ⟨rfl, rfl⟩
  · exact ⟨rfl, rfl⟩
theorem Iv.push {k : Int} {cs : List CL} {ms ms' : List BM} (h : Iv k cs ms) (he : ms'.map BM.s = ms.map BM.s) (i s n : Int) : Iv k (pushCs cs i s n) ms' := fun hk j m hm hr => by
  obtain ⟨e1, e2⟩ := push_lt cs i s n j
  rw [e1] at hr
  rw [e1, e2]
  have h1 : (ms.map BM.s)[j]? = some m.s := by rw [← he, List.getElem?_map, hm]; rfl
  rw [List.getElem?_map] at h1
  cases hm2 : ms[j]? with
  | none => rw [hm2] at h1; cases h1
  | some m2 =>
    rw [hm2, Option.map_some, Option.some.injEq] at h1
    rw [← h1]
    exact h hk j m2 hm2 hr
theorem Iv.fill {k k' : Int} {cs : List CL} {ms : List BM} (h : Iv k cs ms) (hl : ms.length = cs.length) (hk : k' = if k < 1000000 then k + 1 else k) : Iv k' (cs.map fillC) ms := fun hk' j m hm hr => by
  have hj : j < cs.length := by rw [← hl]; exact (List.getElem?_eq_some_iff.1 hm).1
  by_cases hkk : k < 1000000
  · rw [if_pos hkk] at hk
    rw [cAt_map cs j hj] at hr ⊢
    rw [fill_li] at hr ⊢
    have h1 := h hkk j m hm hr
    have h2 : (fillC (cAt cs j)).tk ≤ (cAt cs j).tk + (cAt cs j).li.ra := by
      unfold fillC
      rw [if_pos hr]
      show min _ _ ≤ _
      omega
    have h3 : k' * (cAt cs j).li.ra = k * (cAt cs j).li.ra + (cAt cs j).li.ra := by rw [hk, Int.add_mul, Int.one_mul]
    omega
  · rw [if_neg hkk] at hk
    omega
theorem Iv.take {k : Int} {cs : List CL} {ms ms' : List BM} {i : Nat} {x : Int × Int} {M' : List (Int × Int)} (h : Iv k cs ms) (hi : i < cs.length) (hL : (cAt cs i).L = x :: M') (he : ∀ (j : Nat) (m' : BM), ms'[j]? = some m' → ∃ m, ms[j]? = some m ∧ m'.s = m.s + (if j = i then x.2 else 0)) : Iv k (cs.set i (takeC (cAt cs i))) ms' := fun hk j m' hm' hr => by
  obtain ⟨m, hm, hs⟩ := he j m' hm'
  by_cases e : j = i
  · subst e
    rw [if_pos rfl] at hs
    rw [cAt_set_same hi] at hr ⊢
    have hr' : 0 < (cAt cs j).li.ra := hr
    have h1 := h hk j m hm hr'
    show m'.s + (if 0 < (cAt cs j).li.ra then (cAt cs j).tk - hdS (cAt cs j).L else (cAt cs j).tk) ≤ (cAt cs j).li.bu + k * (cAt cs j).li.ra
    rw [if_pos hr', hL]
    show m'.s + ((cAt cs j).tk - x.2) ≤ _
    omega
  · rw [if_neg e] at hs
    rw [cAt_set_ne e] at hr ⊢
    have h1 := h hk j m hm hr
    omega
end Go.Proofs.Ytclkcpdghpaboaa
