/-
  Options' windows that are full; TcpOptions in one form; appends to windows; loads of bytes.
-/
import Derived.Test.YtmeieggnfmhnmaaDoorL9Win
namespace Go.Proofs.YtmeieggnfmhnmaaDoor
open Go.RowKit
open L4 (U9 T9)

theorem append_win {P : Program} {w : World} {ops : Array Oper} {rest : List Oper} {o : Oper} {a : Act} {Q : Exit → Act → World → Prop} (hgd : o.guard = none) (s x : Operand) (t : TypeId)
    (ho : o.op = .call { callee := .builtin .append, args := #[s, x], argTypes := #[t, t] })
    (e : TypeId) (i : TypeInfo) (z : Value) (bytes : Nat) (ht : P.underlying t = some (.slice e)) (hi : P.info? e = some i) (hz : i.zero = some z)
    (hsize : i.size = 1) (hby : i.bytes = bytes) (hzs : z.cells.size = 1)
    (va : Option Addr) (n : Nat) (l : List Int) (hs : a.eval s = .slice va n n) (hl : l.length = n) (hseg : Seg .u8 w va l) (hva : va = none → n = 0)
    (ad : Addr) (m c : Nat) (zs : List Int) (hx : a.eval x = .slice (some ad) m c) (hm : zs.length = m) (hsg : Seg .u8 w (some ad) zs) (h0 : 0 < m)
    (h63 : n + m ≤ maxLen) (hbytes : (n + m) * bytes ≤ 140737488355328)
    (h : ∀ v' w', w'.ownsRow w.heap.size e 1 v' (n + m) ((l ++ zs).map (Value.int .u8)) → Below w.heap.size w w' → wpList P ops Q rest (a.put o.dst v') w') : wpList P ops Q (o :: rest) a w := by
  cases va with
  | none =>
    have hn0 := hva rfl
    have hl0 : l = [] := List.eq_nil_of_length_eq_zero (by omega)
    subst hn0
    subst hl0
    exact append_new hgd s x t ho e i z bytes ht hi hz hsize hby hzs w.heap.size none 0 [] hs (World.ownsRow_nil _ _ _ _) ad m c zs hx hm hsg h0 h63 hbytes h
  | some ao =>
    refine wpList_append_full hgd s x t ho e i z bytes ht hi hz hsize hby hzs .u8 ao n l hs hl hseg ad m c (zs.map (Value.int .u8)) hx (by simpa using hm) ?_ h0 h63 hbytes ?_
    · intro j u hu
      have hj : j < zs.length := by simpa using (List.getElem?_eq_some_iff.1 hu).1
      rcases hsg with hn | ⟨b, off, e1, hc⟩
      · rw [hn] at hj; simp at hj
      · simp only [Option.some.injEq] at e1
        subst e1
        rw [Addr.add_lit, hc j hj]
        simp [List.getElem?_eq_getElem hj] at hu
        rw [← hu]
        simp [List.getD, hj]
    · intro v' w' ho' hg
      refine h v' w' ?_ ((Below.refl _ _).grown hg (Nat.le_refl _) (by intro k hk; simp at hk))
      rw [List.map_append]
      exact ho'
theorem set_own6 {w : World} {B g N c i y : Nat} {l : List Nat} (ho : w.ownsRow B 5 1 (.slice (some ⟨g, 0, none⟩) N c) N ((toI l).map (Value.int .u8))) (hl : l.length = N) : (w.setCell ⟨g, i, none⟩ (.int .u8 (y : Int))).ownsRow B 5 1 (.slice (some ⟨g, 0, none⟩) N c) N ((toI (l.set i y)).map (Value.int .u8)) := by
  have hg := ho.2
  rcases hg with ⟨h0, _⟩ | ⟨g', cap, cur, e, hb, hh, h1, h2, h3, h4⟩
  · simp at h0
  · simp only [Value.slice.injEq, Option.some.injEq, Addr.mk.injEq, true_and, and_true] at e
    obtain ⟨rfl, rfl⟩ := e
    refine ⟨by simp [toI, hl], .inr ⟨g, c, cur.setIfInBounds i (.int .u8 (y : Int)), rfl, hb, heap_setCell_same _ _ _ _ _ _ hh, h1, h2, by simp [h3], ?_⟩⟩
    rw [Array.toList_setIfInBounds, Nat.mul_one, List.take_set]
    rw [Nat.mul_one] at h4
    rw [h4]
    simp [toI, List.map_set]
theorem own_fz6 {w : World} {B g N c : Nat} {xs : List Value} (ho : w.ownsRow B 5 1 (.slice (some ⟨g, 0, none⟩) N c) N xs) (i : Nat) : w.frozen? ⟨g, i, none⟩ = false := by
  rcases ho.2 with ⟨h0, _⟩ | ⟨g', cap, cur, e, hb, hh, _⟩
  · simp at h0
  · simp only [Value.slice.injEq, Option.some.injEq, Addr.mk.injEq, true_and, and_true] at e
    obtain ⟨rfl, rfl⟩ := e
    simp [World.frozen?, hh]
theorem yields_u8w {ops : Array Oper} {o : Oper} {a : Act} {S : World → Prop} (x : Operand) (ho : o.op = .load 5 x) (p : Addr) (u : Value) (hx : a.eval x = .pointer (some p)) (hw : Region.wanted o (yielded ops a.tmps) = true) (hS : ∀ w, S w → w.cell? p = some u) : YieldsIf Tryd.prog ops S o u a := by
  refine .inl ⟨hw, fun w hb => ?_⟩
  have hc := hS w hb
  have hu := Tryd.underlying5
  obtain ⟨dst, op, type, pos, after, guard⟩ := o
  simp only at ho
  subst ho
  simp only [execOp, Sem.run_bind, Sem.run_pure]
  rw [hx]
  simp [Instr.loadAt, go_sem, hc]
theorem seg_none {k : IntKind} {w : World} {zs : List Int} (h : Seg k w none zs) : zs = [] := by
  rcases h with h | ⟨b, off, e, _⟩
  · exact h
  · cases e
theorem full_opV {ob : List Nat} {ops : List I4.Op4} (a : Option Addr) (h : L4.readO ob = some ops) (h256 : ∀ x ∈ ob, x < 256) : ∀ o ∈ ops.map (opV a ob), o.c = o.d.length := by
  intro o ho
  obtain ⟨q, hq, rfl⟩ := List.mem_map.1 ho
  have h1 := ((I4.scan_in _ 0 ops (L4.readO_some h).2.1 (Nat.zero_le _) h256).1 q hq).2.2.2
  show q.n = ((ob.drop q.p).take q.n).length
  rw [List.length_take, List.length_drop]
  omega
theorem small_opV {ob : List Nat} {ops : List I4.Op4} (a : Option Addr) (h : L4.readO ob = some ops) : ∀ o ∈ ops.map (opV a ob), o.d.length ≤ 40 := by
  intro o ho
  obtain ⟨q, hq, rfl⟩ := List.mem_map.1 ho
  have h40 := (L4.readO_some h).1
  show ((ob.drop q.p).take q.n).length ≤ 40
  rw [List.length_take, List.length_drop]
  omega
theorem ops_few {ob : List Nat} {ops : List I4.Op4} (h : L4.readO ob = some ops) (h256 : ∀ x ∈ ob, x < 256) : ops.length ≤ 40 := by
  have hr := L4.readO_some h
  have h1 := (I4.scan_in _ 0 ops hr.2.1 (Nat.zero_le _) h256).2
  have h2 := flat_few (ops.map (I4.ov ob))
  have h3 := hr.1
  rw [List.length_map] at h2
  omega
theorem topt_u (a : Option Addr) (cap n : Nat) (bs : List Nat) (w : World) (hlw : LW w) (hd : DOk w bs a n cap) :
    Calls Tryd.prog 24 #[.slice a n cap] w fun e w' => ∃ (er : Nat) (ga : Option Addr) (kn gc : Nat) (ls : List OpV), e = .returned (.tuple #[.slice ga kn gc, .int .i64 (er : Nat)]) ∧ Below w.heap.size w w' ∧ OptsAt w' ga ls ∧ ls.length = kn ∧ kn ≤ 40 ∧ (∀ o ∈ ls, o.c = o.d.length) ∧ (∀ o ∈ ls, o.d.length ≤ 1048576) := by
  refine (topt_any a cap n bs w hlw hd.dl hd.seg hd.d256 hd.cap hd.top).mono ?_
  rintro e w' ⟨v, er, rfl, hb, hr⟩
  rcases hr with ⟨ops, hro, rfl, hown⟩ | ⟨_, rfl, rfl⟩
  · obtain ⟨ga, gc, rfl⟩ := owns_shape hown
    have hin := fun q hq => ((I4.scan_in _ 0 ops (L4.readO_some hro).2.1 (Nat.zero_le _) hd.d256).1 q hq).2.2.2
    have hf := ops_few hro hd.d256
    have h40 := (L4.readO_some hro).1
    have hat := opts_of_own hown rfl (hd.seg.old hb) hd.d256 hin (by omega)
    exact ⟨0, ga, ops.length, gc, ops.map (opV a bs), rfl, hb, hat, by rw [List.length_map], hf, full_opV a hro hd.d256, fun o ho => by have := small_opV a hro o ho; omega⟩
  · exact ⟨97, none, 0, 0, [], rfl, hb, .inl rfl, rfl, by omega, by simp, by simp⟩
end Go.Proofs.YtmeieggnfmhnmaaDoor
