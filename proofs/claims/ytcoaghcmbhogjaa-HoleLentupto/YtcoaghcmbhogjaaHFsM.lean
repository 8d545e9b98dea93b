/-
  HoleFirst: the pieces that were taken, in memory.
-/
import Derived.Test.YtcoaghcmbhogjaaHSg2
import Derived.Test.YtcoaghcmbhogjaaHParts
namespace Go.Proofs.Ytcoaghcmbhogjaa
open Go.RowKit Go.Maps
namespace H11

structure TV where
  tp : TP
  a : Option Addr
  c : Nat
def tv1 (p : TV) : List Value := [.int .i64 (p.tp.o : Int), .slice p.a p.tp.d.length p.c, .bool p.tp.more]
def tvC (L : List TV) : List Value := L.flatMap tv1
theorem tvC_len (L : List TV) : (tvC L).length = L.length * 3 := by
  induction L with
  | nil => rfl
  | cons p r ih => simp only [tvC, List.flatMap_cons, List.length_append, List.length_cons] at ih ⊢; rw [ih]; simp [tv1]; omega
theorem tvC_app (L : List TV) (p : TV) : tvC (L ++ [p]) = tvC L ++ tv1 p := by simp [tvC]
theorem tvC_at : ∀ (L : List TV) (k j : Nat) (hk : k < L.length), j < 3 → (tvC L)[k * 3 + j]? = (tv1 L[k])[j]?
  | [], k, _, hk, _ => by simp at hk
  | p :: r, k, j, hk, hj => by
    cases k with
    | zero =>
      rw [Nat.zero_mul, Nat.zero_add]
      simp only [tvC, List.flatMap_cons, List.getElem_cons_zero]
      rw [List.getElem?_append_left (by simpa [tv1] using hj)]
    | succ k =>
      have ih := tvC_at r k j (by simpa using hk) hj
      rw [show (k + 1) * 3 + j = 3 + (k * 3 + j) by omega]
      simp only [tvC, List.flatMap_cons, List.getElem_cons_succ] at ih ⊢
      rw [List.getElem?_append_right (by simp [tv1]), show 3 + (k * 3 + j) - (tv1 p).length = k * 3 + j by simp [tv1]]
      exact ih

structure HFr (W : World) (H m k : Nat) (L LS : List TV) (tv : Value) (s : HS) (v : HV) (wr : World) : Prop where
  own : Own1 W H m k s v wr
  row : wr.ownsRow W.heap.size 37 3 tv L.length (tvC L)
  seg : ∀ p, p ∈ LS → Seg .u8 wr p.a (toI p.tp.d)
  sep : ∀ p, p ∈ LS → ∀ x, p.a = some x → p.tp.d ≠ [] → x.block < wr.heap.size ∧ ¬ HB H v x.block ∧ tv.ownBlock ≠ some x.block
  tvn : ∀ q, tv.ownBlock = some q → ¬ HB H v q
  b8 : ∀ p, p ∈ LS → ∀ x, x ∈ p.tp.d → x < 256
  cnt : L.length ≤ k
section
variable {W : World} {H m k : Nat} {L LS : List TV} {tv : Value} {s : HS} {v : HV} {wr : World} (h : HFr W H m k L LS tv s v wr)
include h
theorem HFr.below {w' : World} (hb : Below wr.heap.size wr w') : HFr W H m k L LS tv s v w' :=
  ⟨h.own.below hb, (Ch.ofBelow (S := fun _ => False) hb).owns h.row (fun _ _ => id), fun p hp => (h.seg p hp).old hb, fun p hp x hx hd => ⟨Nat.lt_of_lt_of_le (h.sep p hp x hx hd).1 hb.size, (h.sep p hp x hx hd).2⟩, h.tvn, h.b8, h.cnt⟩
theorem HFr.ch {S : Nat → Prop} {w' : World} (c : Ch S wr w') (h1 : ∀ x, HB H v x → ¬ S x) (h2 : ∀ q, tv.ownBlock = some q → ¬ S q) (h3 : ∀ p, p ∈ LS → ∀ x, p.a = some x → p.tp.d ≠ [] → ¬ S x.block) (h4 : ∀ x, S x → W.heap.size ≤ x) : HFr W H m k L LS tv s v w' := by
  refine ⟨⟨h.own.hat.ch c h1, h.own.inv, h.own.mx, h.own.tk, h.own.lo, h.own.bel.trans (c.below h4 h.own.bel.size)⟩, c.owns h.row h2, ?_, ?_, h.tvn, h.b8, h.cnt⟩
  · intro p hp
    by_cases e : toI p.tp.d = []
    · exact .inl e
    · exact c.seg (h.seg p hp) (fun x _ hx q => h3 p hp x hx (fun e2 => e (by rw [e2]; rfl)) q)
  · intro p hp x hx hd
    obtain ⟨b1, b2, b3⟩ := h.sep p hp x hx hd
    exact ⟨Nat.lt_of_lt_of_le b1 c.size, b2, b3⟩
theorem HFr.drop {LS' : List TV} (hs : ∀ p, p ∈ LS' → p ∈ LS) : HFr W H m k L LS' tv s v wr :=
  ⟨h.own, h.row, fun p hp => h.seg p (hs p hp), fun p hp => h.sep p (hs p hp), h.tvn, fun p hp => h.b8 p (hs p hp), h.cnt⟩
/-- a row that cut has made -/
theorem HFr.cut {w' : World} (hb : Below wr.heap.size wr w') (tp : TP) (ua : Option Addr) (uc : Nat) (ho : w'.ownsRow wr.heap.size 5 1 (.slice ua tp.d.length uc) tp.d.length ((toI tp.d).map (Value.int .u8))) (h8 : ∀ x, x ∈ tp.d → x < 256) : HFr W H m k L (LS ++ [⟨tp, ua, uc⟩]) tv s v w' := by
  have h1 := h.below hb
  obtain ⟨a', c', e1, hsg, _⟩ := owns_seg ho (k := .u8)
  simp only [Value.slice.injEq, true_and] at e1
  obtain ⟨rfl, rfl⟩ := e1
  refine ⟨h1.own, h1.row, ?_, ?_, h1.tvn, ?_, h1.cnt⟩
  · intro p hp
    rcases List.mem_append.1 hp with q | q
    · exact h1.seg p q
    · simp only [List.mem_singleton] at q; subst q; exact hsg
  · intro p hp x hx hd
    rcases List.mem_append.1 hp with q | q
    · exact h1.sep p q x hx hd
    · simp only [List.mem_singleton] at q
      subst q
      simp only at hx
      have hl := ho.lt x.block (by rw [hx]; rfl)
      refine ⟨hl.2, fun k => ?_, fun k => ?_⟩
      · have := h.own.hat.lt _ k; omega
      · have := (h.row.lt _ k).2; omega
  · intro p hp
    rcases List.mem_append.1 hp with q | q
    · exact h1.b8 p q
    · simp only [List.mem_singleton] at q; subst q; exact h8
/-- Put of the last of them -/
theorem HFr.put (hk : k ≤ 1000) (off : Int) (p : TV) (hp : p ∈ LS) (hc : p.tp.d.length ≤ p.c) :
    Calls Try.prog 13 #[.pointer (some ⟨H, 0, none⟩), .int .i64 off, .slice p.a p.tp.d.length p.c, .bool p.tp.more] wr fun r w' => r = .returned (.tuple #[.agg #[.int .i64 (pN s off p.tp.d p.tp.more : Nat), .int .i64 (pO s off p.tp.d p.tp.more), .bool (pM s off p.tp.d p.tp.more)], .int .i64 (rf s off p.tp.d.length p.tp.more)]) ∧ Ch (HB H v) wr w' ∧ ∃ v', HFr W H m (k + 1) L LS tv (pS s off p.tp.d p.tp.more) v' w' := by
  have ht := h.own.tk
  refine (put_u wr H s v h.own.hat h.own.inv off p.tp.d p.a p.c p.tp.more (h.b8 p hp) (by omega) hc (h.seg p hp) (fun x hd hx => (h.sep p hp x hx hd).2.1)).mono ?_
  rintro e w' ⟨rfl, hm⟩
  have hm2 := hm
  obtain ⟨v2, a1, a2, a3⟩ := hm
  refine ⟨rfl, a3, v2, ⟨⟨a1, pS_inv h.own.inv off p.tp.d p.tp.more (h.b8 p hp), (pS_mx s off p.tp.d p.tp.more).trans h.own.mx, by have := pS_tk s off p.tp.d p.tp.more; omega, ?_, h.own.bel.trans (a3.below h.own.lo h.own.bel.size)⟩, a3.owns h.row (fun g hg q => h.tvn g hg q), ?_, ?_, ?_, h.b8, by have := h.cnt; omega⟩⟩
  · intro x hx
    rcases a2 x hx with q | q
    · exact h.own.lo x q
    · exact Nat.le_trans h.own.bel.size q
  · intro q hq
    by_cases e : toI q.tp.d = []
    · exact .inl e
    · exact a3.seg (h.seg q hq) (fun x _ hx k => (h.sep q hq x hx (fun e2 => e (by rw [e2]; rfl))).2.1 k)
  · intro q hq x hx hd
    obtain ⟨b1, b2, b3⟩ := h.sep q hq x hx hd
    refine ⟨Nat.lt_of_lt_of_le b1 a3.size, fun k => ?_, b3⟩
    rcases a2 _ k with c | c
    · exact b2 c
    · omega
  · intro q hq k
    rcases a2 q k with c | c
    · exact h.tvn q hq c
    · have := (h.row.lt q hq).2; omega
/-- the piece goes on the list -/
theorem HFr.app {w' : World} {tv' : Value} (hk : LS.length ≤ k) (ho : w'.ownsRow W.heap.size 37 3 tv' LS.length (tvC LS)) (hg : wr.grownBy w' tv.ownBlock) (hl : tv'.ownBlock = tv.ownBlock ∨ tv'.ownBlock = some wr.heap.size) : HFr W H m k LS LS tv' s v w' := by
  have c := Ch.ofGrown hg
  refine ⟨⟨h.own.hat.ch c (fun x hx e => h.tvn x e hx), h.own.inv, h.own.mx, h.own.tk, h.own.lo, h.own.bel.grown hg h.own.bel.size (fun q hq => (h.row.lt q hq).1)⟩, ho, ?_, ?_, ?_, h.b8, hk⟩
  · intro p hp
    by_cases e : toI p.tp.d = []
    · exact .inl e
    · exact c.seg (h.seg p hp) (fun x _ hx q => (h.sep p hp x hx (fun e2 => e (by rw [e2]; rfl))).2.2 q)
  · intro p hp x hx hd
    obtain ⟨b1, b2, b3⟩ := h.sep p hp x hx hd
    refine ⟨Nat.lt_of_lt_of_le b1 hg.size, b2, fun q => ?_⟩
    rcases hl with e | e
    · rw [e] at q; exact b3 q
    · rw [e] at q; simp at q; omega
  · intro q hq k
    rcases hl with e | e
    · rw [e] at hq; exact h.tvn q hq k
    · rw [e] at hq; simp at hq; have := h.own.hat.lt q k; omega
end
end H11
end Go.Proofs.Ytcoaghcmbhogjaa
