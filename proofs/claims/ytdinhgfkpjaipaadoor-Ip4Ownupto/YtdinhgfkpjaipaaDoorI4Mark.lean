/-
  Rows that are written full with a mark and lengthened; whether they hold it.
-/
import Derived.Test.YtdinhgfkpjaipaaDoorI4Win
import Derived.Test.YtdinhgfkpjaipaaDoorKRa
import Derived.Deep.Onto
namespace Go.Proofs.YtdinhgfkpjaipaaDoor
open Go.RowKit
open I4 (H4)

theorem wpList_append_full {P : Program} {w : World} {ops : Array Oper} {rest : List Oper} {o : Oper} {a : Act} {Q : Exit → Act → World → Prop} (hgd : o.guard = none) (s x : Operand) (t : TypeId)
    (ho : o.op = .call { callee := .builtin .append, args := #[s, x], argTypes := #[t, t] })
    (e : TypeId) (i : TypeInfo) (z : Value) (bytes : Nat) (ht : P.underlying t = some (.slice e)) (hi : P.info? e = some i) (hz : i.zero = some z)
    (hsize : i.size = 1) (hby : i.bytes = bytes) (hzs : z.cells.size = 1)
    (k : IntKind) (ao : Addr) (n : Nat) (zs : List Int) (hs : a.eval s = .slice (some ao) n n) (hn : zs.length = n) (hseg : Seg k w (some ao) zs)
    (ad : Addr) (m c : Nat) (news : List Value) (hx : a.eval x = .slice (some ad) m c) (hl : news.length = m) (hnews : ∀ j u, news[j]? = some u → w.cell? (ad.add j) = some u) (hm : 0 < m)
    (h63 : n + m ≤ maxLen) (hbytes : (n + m) * bytes ≤ 140737488355328)
    (h : ∀ v' w', w'.ownsRow w.heap.size e 1 v' (n + m) (zs.map (Value.int k) ++ news) → w.grownBy w' none → wpList P ops Q rest (a.put o.dst v') w') : wpList P ops Q (o :: rest) a w := by
  refine wpList_plain hgd fun K hK => ?_
  have holds : ∀ j u, (zs.map (Value.int k))[j]? = some u → w.cell? (ao.add j) = some u := by
    intro j u hu
    have hj : j < zs.length := by simpa using (List.getElem?_eq_some_iff.1 hu).1
    rcases hseg with h0 | ⟨b, off, e1, hc⟩
    · rw [h0] at hj; simp at hj
    · simp only [Option.some.injEq] at e1
      subst e1
      rw [Addr.add_lit, hc j hj]
      simp [List.getElem?_eq_getElem hj] at hu
      rw [← hu]
      simp [List.getD, hj]
  obtain ⟨v', w', hrun, r1, r2⟩ := run_append_arg_grows (P := P) w t o.type e i z 1 bytes ht hi hz hsize hby hzs (by decide) ao n n (zs.map (Value.int k)) (by simpa using hn) holds ad m c news (by simpa using hl) hnews (by omega) h63 hbytes
  unfold Oper.wp
  simp [execOp, ho, resolve, invoke, builtin, hs, hx, hrun, Result.andThen]
  exact hK _ _ (h v' w' r1 r2)

theorem append_new {P : Program} {w : World} {ops : Array Oper} {rest : List Oper} {o : Oper} {a : Act} {Q : Exit → Act → World → Prop} (hgd : o.guard = none) (s x : Operand) (t : TypeId)
    (ho : o.op = .call { callee := .builtin .append, args := #[s, x], argTypes := #[t, t] })
    (e : TypeId) (i : TypeInfo) (z : Value) (bytes : Nat) (ht : P.underlying t = some (.slice e)) (hi : P.info? e = some i) (hz : i.zero = some z)
    (hsize : i.size = 1) (hby : i.bytes = bytes) (hzs : z.cells.size = 1)
    (B : Nat) (va : Option Addr) (n : Nat) (l : List Int) (hs : a.eval s = .slice va n n) (hown : w.ownsRow B e 1 (.slice va n n) n (l.map (Value.int .u8)))
    (ad : Addr) (m c : Nat) (zs : List Int) (hx : a.eval x = .slice (some ad) m c) (hm : zs.length = m) (hseg : Seg .u8 w (some ad) zs) (h0 : 0 < m)
    (h63 : n + m ≤ maxLen) (hbytes : (n + m) * bytes ≤ 140737488355328)
    (h : ∀ v' w', w'.ownsRow w.heap.size e 1 v' (n + m) ((l ++ zs).map (Value.int .u8)) → Below w.heap.size w w' → wpList P ops Q rest (a.put o.dst v') w') : wpList P ops Q (o :: rest) a w := by
  have hl : l.length = n := by have := hown.1; simpa using this
  rcases hown.2 with ⟨e0, hn0⟩ | ⟨g, cap, cur, e0, _⟩
  · refine append_split_seg hgd s x t ho w.heap.size e i z bytes ht hi hz hsize hby hzs (.slice none 0 0) 0 [] (by rw [hs]; exact e0) (World.ownsRow_nil _ _ _ _) .u8 (some ad) m c zs hx hm hseg (by omega) (by rw [hn0] at hbytes; simpa using hbytes) (Nat.le_refl _) ?_
    intro v' w' ho' _ hg
    have hl0 : l = [] := List.eq_nil_of_length_eq_zero (by omega)
    refine h v' w' ?_ ((Below.refl _ _).grown hg (Nat.le_refl _) (by intro k hk; simp [Value.ownBlock] at hk))
    rw [hn0, hl0]
    simpa using ho'
  · simp only [Value.slice.injEq, true_and] at e0
    obtain ⟨rfl, rfl⟩ := e0
    refine wpList_append_full hgd s x t ho e i z bytes ht hi hz hsize hby hzs .u8 ⟨g, 0, none⟩ n l hs hl (owns_at hown).1 ad m c (zs.map (Value.int .u8)) hx (by simpa using hm) ?_ h0 h63 hbytes ?_
    · intro j u hu
      have hj : j < zs.length := by simpa using (List.getElem?_eq_some_iff.1 hu).1
      rcases hseg with hn | ⟨b, off, e1, hc⟩
      · rw [hn] at hj; simp at hj
      · simp only [Option.some.injEq] at e1
        subst e1
        rw [Addr.add_lit, hc j hj]
        simp [List.getElem?_eq_getElem hj] at hu
        rw [← hu]
        simp [List.getD, hj]
    · intro v' w' ho' hg
      refine h v' w' ?_ ((Below.refl _ _).grown hg (Nat.le_refl _) (by intro k hk; simp at hk))
      rw [List.map_append]
      exact ho'
set_option maxHeartbeats 1600000 in
set_option maxRecDepth 100000 in
theorem full6_any (m : Nat) (w : World) :
    Calls Tryd.prog 64 #[.int .u8 m] w fun e w' => ∃ g c, e = .returned (.slice (some ⟨g, 0, none⟩) 70 c) ∧ w'.ownsRow w.heap.size 5 1 (.slice (some ⟨g, 0, none⟩) 70 c) 70 ((toI (List.replicate 70 m)).map (Value.int .u8)) ∧ Below w.heap.size w w' := by
  obtain ⟨i0, hi, hz0, hz1, hz2⟩ := info_parts Tryd.infoByte
  have HS0 : Hid (w.ownsRow w.heap.size 5 1 (.slice none 0 0) 0 ((toI (List.replicate 0 m)).map (Value.int .u8)) ∧ Below w.heap.size w w) := ⟨World.ownsRow_nil _ _ _ _, Below.refl _ _⟩
  go_enter Tryd.func64, Tryd.ntmps64
  go_wp2
  go_loopw [3, 4] (fun l ix wr => ∃ (k : Nat) (v : Value), v = l ∧ ix = .int .i64 k ∧ k ≤ 70 ∧ Hid (wr.ownsRow w.heap.size 5 1 v k ((toI (List.replicate k m)).map (Value.int .u8)) ∧ Below w.heap.size w wr)) (fun _ ix _ => 70 - (intOf ix).toNat)
  case atStart => exact ⟨0, _, rfl, rfl, by omega, HS0⟩
  case round =>
    obtain ⟨k, v, rfl, rfl, hk, HT⟩ := hrel
    by_cases hlt : k < 70
    · have k3 : (k : Int) < 70 := by omega
      have hszr : w.heap.size ≤ wr.heap.size := HT.out.2.size
      go_wp2_with (first | (at_builtin; refine append_split_seg rfl (.tmp 9) (.tmp 11) 26 rfl w.heap.size 5 i0 (.int .u8 0) 1 Tryd.underlying26 hi hz0 hz1 hz2 rfl v k _ rfl (HT.out.1.alloc _) .u8 (some ⟨wr.heap.size, 0, none⟩) 1 1 [(m : Int)] rfl rfl (seg_newz wr [(m : Int)] _) (by unfold maxLen; omega) (by omega) (by first | omega | (simp; omega)) ?_))
      intro v3 wy ho3 _ hg3
      have HT3 : Hid (wy.ownsRow w.heap.size 5 1 v3 (k + 1) ((toI (List.replicate (k + 1) m)).map (Value.int .u8)) ∧ Below w.heap.size w wy) := by
        have h1 : Below w.heap.size w (wr.alloc (.cells #[.int .u8 (m : Int)] 5)) := HT.out.2.alloc hszr _
        refine ⟨?_, h1.grown hg3 (by first | omega | (simp; omega)) (fun q hq => (HT.out.1.lt q hq).1)⟩
        have e : (toI (List.replicate (k + 1) m)).map (Value.int .u8) = (toI (List.replicate k m)).map (Value.int .u8) ++ ([(m : Int)] : List Int).map (Value.int .u8) := by rw [List.replicate_succ']; simp [toI]
        rw [e]
        exact ho3
      clear ho3 hg3
      go_wp2
      go_roundw
      case rel => exact ⟨k + 1, v3, rfl, by go_num, by omega, HT3⟩
      case measure => simp [intOf]; omega
    · have hni : ¬ ((k : Int) < 70) := by omega
      have e70 : k = 70 := by omega
      have HTE : Hid (wr.ownsRow w.heap.size 5 1 v 70 ((toI (List.replicate 70 m)).map (Value.int .u8)) ∧ Below w.heap.size w wr) := by have h1 := HT.out; rw [e70] at h1; exact h1
      clear hlt hk e70 HT
      obtain ⟨g, c, rfl⟩ := owns_some HTE.out.1 (by omega)
      go_wp2
      go_ret
      exact ⟨g, c, rfl, HTE.out.1, HTE.out.2⟩
/-- five rows that hold the mark -/
structure Marks (w : World) (X m : Nat) (ps : List Part) : Prop where
  parts : Parts w (some ⟨X, 0, none⟩) ps
  len : ps.length = 5
  all : ∀ p ∈ ps, ∀ x ∈ p.l, x = m
/-- where they lie: a row of a0, or from N on -/
def MNew (N X : Nat) (a0 : Option Addr) (ps : List Part) : Prop := N ≤ X ∧ ∀ p ∈ ps, ∀ z, p.a = some z → a0 = some z ∨ N ≤ z.block
theorem Marks.ch {S : Nat → Prop} {w w' : World} {X m N : Nat} {a0 : Option Addr} {ps : List Part} (h : Marks w X m ps) (c : Ch S w w') (k : MNew N X a0 ps) (h1 : ∀ x, N ≤ x → ¬ S x) (h2 : ∀ z, a0 = some z → ¬ S z.block) : Marks w' X m ps := by
  refine ⟨⟨?_, fun p hp => ?_⟩, h.len, h.all⟩
  · rcases h.parts.1 with h0 | ⟨b, off, e, hc⟩
    · exact .inl h0
    · have e' := Option.some.inj e
      simp only [Addr.mk.injEq, and_true] at e'
      refine .inr ⟨b, off, e, fun i hi => c.cell (hc i hi) ?_⟩
      show ¬ S b
      rw [← e'.1]; exact h1 X k.1
  · have h3 := h.parts.2 p hp
    refine ⟨c.seg h3.1 (fun z _ hz => ?_), h3.2⟩
    rcases k.2 p hp z hz with h4 | h4
    · exact h2 z h4
    · exact h1 _ h4
theorem Marks.below {w w' : World} {X m : Nat} {ps : List Part} (h : Marks w X m ps) (c : Below w.heap.size w w') : Marks w' X m ps := by
  refine ⟨⟨?_, fun p hp => (h.parts.2 p hp).old c⟩, h.len, h.all⟩
  rcases h.parts.1 with h0 | ⟨b, off, e, hc⟩
  · exact .inl h0
  · exact .inr ⟨b, off, e, fun i hi => (c.cell (p := ⟨b, off + i, none⟩) (World.block_lt_of_cell? w _ (hc i hi))).trans (hc i hi)⟩
set_option maxHeartbeats 1600000 in
set_option maxRecDepth 100000 in
theorem holds_any (X m : Nat) (ps : List Part) (w : World) (h : Marks w X m ps) :
    Calls Tryd.prog 33 #[.slice (some ⟨X, 0, none⟩) 5 5, .int .u8 m] w fun e w' => e = .returned (.bool true) ∧ w = w' := by
  have HM : Hid (Marks w X m ps) := h
  have HL : Hid (ps.length = 5) := h.len
  clear h
  go_enter Tryd.func33, Tryd.ntmps33
  go_wp2
  go_loop [5] (fun ix => ∃ k : Nat, ix = .int .i64 k ∧ k ≤ 5) (fun ix => 5 - (intOf ix).toNat)
  case atStart => exact ⟨0, rfl, by omega⟩
  case round =>
    obtain ⟨k, rfl, hk⟩ := hrel
    by_cases hlt : k < 5
    · obtain ⟨p, hp⟩ : ∃ p, ps[k]? = some p := ⟨_, List.getElem?_eq_getElem (by rw [HL.out]; exact hlt)⟩
      have hpm := List.mem_of_getElem? hp
      have hc : w.cell? ⟨X, k, none⟩ = some (.slice p.a p.l.length p.cap) := by
        rcases HM.out.parts.1 with h0 | ⟨b, off, e, hcc⟩
        · rw [h0] at hp; simp at hp
        · have e' := Option.some.inj e
          simp only [Addr.mk.injEq, and_true] at e'
          obtain ⟨rfl, rfl⟩ := e'
          have := hcc k (by rw [HL.out]; exact hlt)
          rw [Nat.zero_add, (List.getElem?_eq_some_iff.1 hp).2] at this
          exact this
      have HSG : Hid (Seg .u8 w p.a (toI p.l)) := (HM.out.parts.2 p hpm).1
      have HAL : Hid (∀ x ∈ p.l, x = m) := HM.out.all p hpm
      have hpc := (HM.out.parts.2 p hpm).2.2
      obtain ⟨D, hD⟩ : ∃ D, D = p.l.length := ⟨_, rfl⟩
      rw [← hD] at hc hpc
      have HD : Hid (p.l.length = D) := hD.symm
      have k0 : (0 : Int) ≤ (k : Int) := by omega
      have k1 : (k : Int) < 5 := by omega
      have k2 : ((k : Int)).toNat = k := by omega
      have hDm : D ≤ 9223372036854775807 := by omega
      clear hp hpm hD hpc
      go_wp2
      go_loop [6] (fun ix => ∃ j : Nat, ix = .int .i64 j ∧ j ≤ D) (fun ix => D - (intOf ix).toNat)
      case atStart => exact ⟨0, rfl, Nat.zero_le _⟩
      case round =>
        obtain ⟨j, rfl, hj⟩ := hrel
        by_cases hjl : j < D
        · obtain ⟨b, off, e, hcc⟩ := seg_at HSG.out j (by rw [HD.out]; exact hjl)
          have cj := hcc j (by rw [HD.out]; exact hjl)
          have ev : p.l.getD j 0 = m := by
            simp only [List.getD, List.getElem?_eq_getElem (show j < p.l.length by rw [HD.out]; exact hjl), Option.getD_some]
            exact HAL.out _ (List.getElem_mem _)
          rw [ev] at cj
          rw [e] at hc
          have j0 : (0 : Int) ≤ (j : Int) := by omega
          have j1 : (j : Int) < (D : Int) := by omega
          have j2 : ((j : Int)).toNat = j := by omega
          have wj : IntKind.i64.wrap ((j : Int) + 1) = (j : Int) + 1 := by rw [IntKind.wrap_i64]; omega
          have q : ((m : Int) != (m : Int)) = false := by simp
          clear e ev hcc
          go_wp2
          go_round
          case rel => exact ⟨j + 1, by go_num, by omega⟩
          case measure => simp [intOf]; omega
        · have hni : ¬ ((j : Int) < (D : Int)) := by omega
          clear hjl
          go_wp2
          go_round
          case rel => exact ⟨k + 1, by go_num, by omega⟩
          case measure => simp [intOf]; omega
    · have hni : ¬ ((k : Int) < 5) := by omega
      clear hlt
      go_wp2
      go_ret
      exact ⟨rfl, rfl⟩
theorem set_own6 {w : World} {B g N c i y : Nat} {l : List Nat} (ho : w.ownsRow B 5 1 (.slice (some ⟨g, 0, none⟩) N c) N ((toI l).map (Value.int .u8))) (hl : l.length = N) : (w.setCell ⟨g, i, none⟩ (.int .u8 (y : Int))).ownsRow B 5 1 (.slice (some ⟨g, 0, none⟩) N c) N ((toI (l.set i y)).map (Value.int .u8)) := by
  have hg := ho.2
  rcases hg with ⟨h0, _⟩ | ⟨g', cap, cur, e, hb, hh, h1, h2, h3, h4⟩
  · simp at h0
  · simp only [Value.slice.injEq, Option.some.injEq, Addr.mk.injEq, true_and, and_true] at e
    obtain ⟨rfl, rfl⟩ := e
    refine ⟨by simp [toI, hl], .inr ⟨g, c, cur.setIfInBounds i (.int .u8 (y : Int)), rfl, hb, heap_setCell_same _ _ _ _ _ _ hh, h1, h2, by simp [h3], ?_⟩⟩
    rw [Array.toList_setIfInBounds, Nat.mul_one, List.take_set]
    rw [Nat.mul_one] at h4
    rw [h4]
    simp [toI, List.map_set]
theorem own_fz6 {w : World} {B g N c : Nat} {xs : List Value} (ho : w.ownsRow B 5 1 (.slice (some ⟨g, 0, none⟩) N c) N xs) (i : Nat) : w.frozen? ⟨g, i, none⟩ = false := by
  rcases ho.2 with ⟨h0, _⟩ | ⟨g', cap, cur, e, hb, hh, _⟩
  · simp at h0
  · simp only [Value.slice.injEq, Option.some.injEq, Addr.mk.injEq, true_and, and_true] at e
    obtain ⟨rfl, rfl⟩ := e
    simp [World.frozen?, hh]
theorem part_own {w : World} {B n c : Nat} {va : Option Addr} {l : List Nat} (h : w.ownsRow B 5 1 (.slice va n c) n ((toI l).map (Value.int .u8))) (h256 : ∀ x ∈ l, x < 256) : Part.ok w ⟨va, c, l⟩ ∧ l.length = n := by
  have hl : l.length = n := by have := h.1; simpa [toI] using this
  obtain ⟨h1, h2, h3⟩ := owns_at h
  exact ⟨⟨h1, h256, by show l.length ≤ c; omega, h3⟩, hl⟩
set_option maxHeartbeats 6400000 in
set_option maxRecDepth 100000 in
theorem marked_any (B : Nat) (va : Option Addr) (n m : Nat) (l : List Nat) (w : World) (ho : w.ownsRow B 5 1 (.slice va n n) n ((toI l).map (Value.int .u8))) (hn : n ≤ 1048576) (hm : m < 256) :
    Calls Tryd.prog 32 #[.slice va n n, .int .u8 m] w fun e w' => ∃ X ps, e = .returned (.slice (some ⟨X, 0, none⟩) 5 5) ∧ Marks w' X m ps ∧ MNew w.heap.size X va ps ∧ Ch (fun q => (Value.slice va n n).ownBlock = some q) w w' := by
  obtain ⟨i0, hi, hz0, hz1, hz2⟩ := info_parts Tryd.infoByte
  have hl : l.length = n := by have := ho.1; simpa [toI] using this
  have HL : Hid (l.length = n) := hl
  have HS0 : Hid (w.ownsRow B 5 1 (.slice va n n) n ((toI (List.replicate 0 m ++ l.drop 0)).map (Value.int .u8)) ∧ Ch (fun q => (Value.slice va n n).ownBlock = some q) w w) := ⟨by simpa using ho, Ch.refl _ _⟩
  have HVA : Hid (0 < n → ∃ g, va = some ⟨g, 0, none⟩) := by
    intro h0
    obtain ⟨g, c, e⟩ := owns_some ho h0
    simp only [Value.slice.injEq] at e
    exact ⟨g, e.1⟩
  clear ho hl
  go_enter Tryd.func32, Tryd.ntmps32
  go_wp2
  go_loopw [5] (fun ix wr => ∃ k : Nat, ix = .int .i64 k ∧ k ≤ n ∧ Hid (wr.ownsRow B 5 1 (.slice va n n) n ((toI (List.replicate k m ++ l.drop k)).map (Value.int .u8)) ∧ Ch (fun q => (Value.slice va n n).ownBlock = some q) w wr)) (fun ix _ => n - (intOf ix).toNat)
  case atStart => exact ⟨0, rfl, Nat.zero_le _, HS0⟩
  case round =>
    obtain ⟨k, rfl, hk, HT⟩ := hrel
    by_cases hlt : k < n
    · obtain ⟨g, rfl⟩ := HVA.out (by omega)
      have hll : (List.replicate k m ++ l.drop k).length = n := by simp [HL.out]; omega
      obtain ⟨g', o', e1, hcs⟩ := seg_at (owns_at HT.out.1).1 k (by rw [hll]; exact hlt)
      have e2 := Option.some.inj e1
      simp only [Addr.mk.injEq, and_true] at e2
      obtain ⟨rfl, rfl⟩ := e2
      have ck := hcs k (by rw [hll]; exact hlt)
      rw [Nat.zero_add] at ck
      have zk := own_fz6 HT.out.1 k
      have k0 : (0 : Int) ≤ (k : Int) := by omega
      have k1 : (k : Int) < (n : Int) := by omega
      have k2 : ((k : Int)).toNat = k := by omega
      have wk : IntKind.i64.wrap ((k : Int) + 1) = (k : Int) + 1 := by rw [IntKind.wrap_i64]; omega
      have HS2 : Hid ((wr.setCell ⟨g, k, none⟩ (.int .u8 (m : Int))).ownsRow B 5 1 (.slice (some ⟨g, 0, none⟩) n n) n ((toI (List.replicate (k + 1) m ++ l.drop (k + 1))).map (Value.int .u8)) ∧ Ch (fun q => (Value.slice (some (⟨g, 0, none⟩ : Addr)) n n).ownBlock = some q) w (wr.setCell ⟨g, k, none⟩ (.int .u8 (m : Int)))) := by
        refine ⟨?_, HT.out.2.set _ _ rfl⟩
        have h1 := set_own6 (i := k) (y := m) HT.out.1 hll
        have e : (List.replicate k m ++ l.drop k).set k m = List.replicate (k + 1) m ++ l.drop (k + 1) := by
          rw [List.set_append_right _ _ (by simp), List.length_replicate, Nat.sub_self, List.drop_eq_getElem_cons (show k < l.length by rw [HL.out]; exact hlt), List.set_cons_zero, List.replicate_succ', List.append_assoc]
          rfl
        rw [e] at h1
        exact h1
      generalize (List.replicate k m ++ l.drop k).getD k 0 = yk at ck
      clear e1 hcs hll
      go_wp2
      go_roundw
      case rel => exact ⟨k + 1, by go_num, by omega, HS2⟩
      case measure => simp [intOf]; omega
    · have hni : ¬ ((k : Int) < (n : Int)) := by omega
      have ekn : k = n := by omega
      have HT1 : Hid (wr.ownsRow B 5 1 (.slice va n n) n ((toI (List.replicate n m)).map (Value.int .u8)) ∧ Ch (fun q => (Value.slice va n n).ownBlock = some q) w wr) := by
        have h1 := HT.out
        rw [ekn, List.drop_of_length_le (by rw [HL.out]; exact Nat.le_refl _), List.append_nil] at h1
        exact h1
      have hsz : w.heap.size ≤ wr.heap.size := HT.out.2.size
      clear hlt ekn HT
      have HO1a : Hid (wr.ownsRow B 5 1 (.slice va n n) n ((toI (List.replicate n m)).map (Value.int .u8))) := HT1.out.1
      go_wp2_with (first | (at_builtin; refine append_new rfl (.tmp 20) (.tmp 22) 26 rfl 5 i0 (.int .u8 0) 1 Tryd.underlying26 hi hz0 hz1 hz2 rfl B va n (toI (List.replicate n m)) rfl (HO1a.out.alloc _) ⟨wr.heap.size, 0, none⟩ 1 1 [(m : Int)] rfl rfl (seg_newz wr [(m : Int)] _) (by decide) (by unfold maxLen; omega) (by omega) ?_))
      intro v1 x1 ow1 bx1
      obtain ⟨g1, c1, rfl⟩ := owns_some ow1 (by omega)
      have hb1 : Below wr.heap.size wr x1 := ((Below.refl _ _).alloc (Nat.le_refl _) (.cells #[.int .u8 (m : Int)] 5)).trans (bx1.mono (by simp))
      have R1 : Hid (x1.ownsRow w.heap.size 5 1 (.slice (some ⟨g1, 0, none⟩) (n + 1) c1) (n + 1) ((toI (List.replicate (n + 1) m)).map (Value.int .u8))) := by
        have hle : w.heap.size ≤ wr.heap.size + 1 := by omega
        have h1 := owns_mono ow1 hle
        have e : (toI (List.replicate (n + 1) m)).map (Value.int .u8) = (toI (List.replicate n m)).map (Value.int .u8) ++ (toI [m]).map (Value.int .u8) := by rw [← List.replicate_append_replicate, show List.replicate 1 m = [m] from rfl]; simp [toI]
        rw [e]
        show x1.ownsRow _ _ _ _ _ _
        simpa [toI] using h1
      clear ow1 bx1
      have HO2a : Hid (x1.ownsRow B 5 1 (.slice va n n) n ((toI (List.replicate n m)).map (Value.int .u8))) := owns_below HO1a.out hb1
      go_wp2_with (first | (at_builtin; refine append_new rfl (.tmp 24) (.tmp 27) 26 rfl 5 i0 (.int .u8 0) 1 Tryd.underlying26 hi hz0 hz1 hz2 rfl B va n (toI (List.replicate n m)) rfl (HO2a.out.alloc _) ⟨x1.heap.size, 0, none⟩ 2 2 [(m : Int), (m : Int)] rfl rfl (seg_newz x1 [(m : Int), (m : Int)] _) (by decide) (by unfold maxLen; omega) (by omega) ?_))
      intro v2 x2 ow2 bx2
      obtain ⟨g2, c2, rfl⟩ := owns_some ow2 (by omega)
      have hb2 : Below x1.heap.size x1 x2 := ((Below.refl _ _).alloc (Nat.le_refl _) (.cells #[.int .u8 (m : Int), .int .u8 (m : Int)] 5)).trans (bx2.mono (by simp))
      have R2 : Hid (x2.ownsRow w.heap.size 5 1 (.slice (some ⟨g2, 0, none⟩) (n + 2) c2) (n + 2) ((toI (List.replicate (n + 2) m)).map (Value.int .u8))) := by
        have hle : w.heap.size ≤ x1.heap.size + 1 := by have := hb1.size; omega
        have h1 := owns_mono ow2 hle
        have e : (toI (List.replicate (n + 2) m)).map (Value.int .u8) = (toI (List.replicate n m)).map (Value.int .u8) ++ (toI [m, m]).map (Value.int .u8) := by rw [← List.replicate_append_replicate, show List.replicate 2 m = [m, m] from rfl]; simp [toI]
        rw [e]
        show x2.ownsRow _ _ _ _ _ _
        simpa [toI] using h1
      have R12 : Hid _ := owns_below R1.out hb2
      clear ow2 bx2
      have HO3a : Hid (x2.ownsRow B 5 1 (.slice va n n) n ((toI (List.replicate n m)).map (Value.int .u8))) := owns_below HO2a.out hb2
      go_wp2_with (first | (at_builtin; refine append_new rfl (.tmp 29) (.tmp 33) 26 rfl 5 i0 (.int .u8 0) 1 Tryd.underlying26 hi hz0 hz1 hz2 rfl B va n (toI (List.replicate n m)) rfl (HO3a.out.alloc _) ⟨x2.heap.size, 0, none⟩ 3 3 [(m : Int), (m : Int), (m : Int)] rfl rfl (seg_newz x2 [(m : Int), (m : Int), (m : Int)] _) (by decide) (by unfold maxLen; omega) (by omega) ?_))
      intro v3 x3 ow3 bx3
      obtain ⟨g3, c3, rfl⟩ := owns_some ow3 (by omega)
      have hb3 : Below x2.heap.size x2 x3 := ((Below.refl _ _).alloc (Nat.le_refl _) (.cells #[.int .u8 (m : Int), .int .u8 (m : Int), .int .u8 (m : Int)] 5)).trans (bx3.mono (by simp))
      have R3 : Hid (x3.ownsRow w.heap.size 5 1 (.slice (some ⟨g3, 0, none⟩) (n + 3) c3) (n + 3) ((toI (List.replicate (n + 3) m)).map (Value.int .u8))) := by
        have hle : w.heap.size ≤ x2.heap.size + 1 := by have := hb1.size; have := hb2.size; omega
        have h1 := owns_mono ow3 hle
        have e : (toI (List.replicate (n + 3) m)).map (Value.int .u8) = (toI (List.replicate n m)).map (Value.int .u8) ++ (toI [m, m, m]).map (Value.int .u8) := by rw [← List.replicate_append_replicate, show List.replicate 3 m = [m, m, m] from rfl]; simp [toI]
        rw [e]
        show x3.ownsRow _ _ _ _ _ _
        simpa [toI] using h1
      have R13 : Hid _ := owns_below R12.out hb3
      have R23 : Hid _ := owns_below R2.out hb3
      clear ow3 bx3
      have HO4a : Hid (x3.ownsRow B 5 1 (.slice va n n) n ((toI (List.replicate n m)).map (Value.int .u8))) := owns_below HO3a.out hb3
      go_wp2_with fail
      refine Calls.mono (full6_any m x3) ?_
      rintro e wf ⟨gf, cf, rfl, hof, hbf⟩
      obtain ⟨F7, hF7⟩ : ∃ F, List.replicate 70 m = F := ⟨_, rfl⟩
      rw [hF7] at hof
      have HF7 : Hid (List.replicate 70 m = F7) := hF7
      have hl7 : F7.length = 70 := by rw [← hF7]; simp
      clear hF7
      have HOF : Hid (wf.ownsRow B 5 1 (.slice va n n) n ((toI (List.replicate n m)).map (Value.int .u8))) := owns_below HO4a.out hbf
      have hsf := (owns_at hof).1
      go_wp2_with (first | (at_builtin; refine append_new rfl (.tmp 35) (.tmp 37) 26 rfl 5 i0 (.int .u8 0) 1 Tryd.underlying26 hi hz0 hz1 hz2 rfl B va n (toI (List.replicate n m)) rfl HOF.out ⟨gf, 0, none⟩ 70 cf (toI F7) rfl (by rw [toI_len]; exact hl7) hsf (by decide) (by unfold maxLen; omega) (by omega) ?_))
      intro v4 x4 ow4 bx4
      obtain ⟨g4, c4, rfl⟩ := owns_some ow4 (by omega)
      have hb4 : Below x3.heap.size x3 x4 := bthen hbf bx4
      have R4 : Hid (x4.ownsRow w.heap.size 5 1 (.slice (some ⟨g4, 0, none⟩) (n + 70) c4) (n + 70) ((toI (List.replicate (n + 70) m)).map (Value.int .u8))) := by
        have hle : w.heap.size ≤ wf.heap.size := by have := hb1.size; have := hb2.size; have := hb3.size; have := hbf.size; omega
        have h1 := owns_mono ow4 hle
        have e : (toI (List.replicate (n + 70) m)).map (Value.int .u8) = (toI (List.replicate n m)).map (Value.int .u8) ++ (toI F7).map (Value.int .u8) := by rw [← List.replicate_append_replicate, show List.replicate 70 m = F7 from HF7.out]; simp [toI]
        rw [e]
        show x4.ownsRow _ _ _ _ _ _
        simpa [toI] using h1
      have R14 : Hid _ := owns_below R13.out hb4
      have R24 : Hid _ := owns_below R23.out hb4
      have R34 : Hid _ := owns_below R3.out hb4
      clear ow4 bx4
      have HBF : Hid (x4.ownsRow B 5 1 (.slice va n n) n ((toI (List.replicate n m)).map (Value.int .u8))) := owns_below HO4a.out hb4
      have bAll : Below wr.heap.size wr x4 := bthen (bthen (bthen hb1 hb2) hb3) hb4
      have H256 : Hid (∀ j, ∀ x ∈ List.replicate j m, x < 256) := fun j x hx => by rw [List.eq_of_mem_replicate hx]; exact hm
      have HALL : Hid (∀ j, ∀ x ∈ List.replicate j m, x = m) := fun j x hx => List.eq_of_mem_replicate hx
      obtain ⟨p0, q0⟩ := part_own HBF.out (H256.out n)
      obtain ⟨p1, q1⟩ := part_own R14.out (H256.out (n + 1))
      obtain ⟨p2, q2⟩ := part_own R24.out (H256.out (n + 2))
      obtain ⟨p3, q3⟩ := part_own R34.out (H256.out (n + 3))
      obtain ⟨p4, q4⟩ := part_own R4.out (H256.out (n + 70))
      have HF : Hid (Marks (x4.alloc (.cells #[.slice va n n, .slice (some ⟨g1, 0, none⟩) (n + 1) c1, .slice (some ⟨g2, 0, none⟩) (n + 2) c2, .slice (some ⟨g3, 0, none⟩) (n + 3) c3, .slice (some ⟨g4, 0, none⟩) (n + 70) c4] 26)) x4.heap.size m [⟨va, n, List.replicate n m⟩, ⟨some ⟨g1, 0, none⟩, c1, List.replicate (n + 1) m⟩, ⟨some ⟨g2, 0, none⟩, c2, List.replicate (n + 2) m⟩, ⟨some ⟨g3, 0, none⟩, c3, List.replicate (n + 3) m⟩, ⟨some ⟨g4, 0, none⟩, c4, List.replicate (n + 70) m⟩]) := by
        refine ⟨?_, rfl, ?_⟩
        · have h1 := parts_new x4 [⟨va, n, List.replicate n m⟩, ⟨some ⟨g1, 0, none⟩, c1, List.replicate (n + 1) m⟩, ⟨some ⟨g2, 0, none⟩, c2, List.replicate (n + 2) m⟩, ⟨some ⟨g3, 0, none⟩, c3, List.replicate (n + 3) m⟩, ⟨some ⟨g4, 0, none⟩, c4, List.replicate (n + 70) m⟩] 26 (by
            intro p hp
            simp only [List.mem_cons, List.not_mem_nil, or_false] at hp
            rcases hp with rfl | rfl | rfl | rfl | rfl
            · exact p0
            · exact p1
            · exact p2
            · exact p3
            · exact p4)
          simp only [List.map_cons, List.map_nil, Part.val, List.length_replicate] at h1
          exact h1
        · intro p hp
          simp only [List.mem_cons, List.not_mem_nil, or_false] at hp
          rcases hp with rfl | rfl | rfl | rfl | rfl <;> exact HALL.out _
      have HN2 : Hid (MNew w.heap.size x4.heap.size va [⟨va, n, List.replicate n m⟩, ⟨some ⟨g1, 0, none⟩, c1, List.replicate (n + 1) m⟩, ⟨some ⟨g2, 0, none⟩, c2, List.replicate (n + 2) m⟩, ⟨some ⟨g3, 0, none⟩, c3, List.replicate (n + 3) m⟩, ⟨some ⟨g4, 0, none⟩, c4, List.replicate (n + 70) m⟩]) := by
        refine ⟨by have := bAll.size; omega, fun p hp z hz => ?_⟩
        simp only [List.mem_cons, List.not_mem_nil, or_false] at hp
        rcases hp with rfl | rfl | rfl | rfl | rfl
        · exact .inl hz
        · exact .inr (own_blk R1.out z hz).1
        · exact .inr (own_blk R2.out z hz).1
        · exact .inr (own_blk R3.out z hz).1
        · exact .inr (own_blk R4.out z hz).1
      have HC : Hid (Ch (fun q => (Value.slice va n n).ownBlock = some q) w (x4.alloc (.cells #[.slice va n n, .slice (some ⟨g1, 0, none⟩) (n + 1) c1, .slice (some ⟨g2, 0, none⟩) (n + 2) c2, .slice (some ⟨g3, 0, none⟩) (n + 3) c3, .slice (some ⟨g4, 0, none⟩) (n + 70) c4] 26))) := (HT1.out.2.trans (Ch.ofBelow (S := fun _ => False) bAll) (fun _ _ h => h.elim)).alloc _
      clear p0 p1 p2 p3 p4 q0 q1 q2 q3 q4 bAll hb1 hb2 hb3 hb4
      go_wp2
      go_ret
      exact ⟨_, _, rfl, HF.out, HN2.out, HC.out⟩
end Go.Proofs.YtdinhgfkpjaipaaDoor
