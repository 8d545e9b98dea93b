/-
  Rows that are written full with a mark and lengthened; whether they hold it (layer 8).
-/
import Derived.Test.YtkhalknpfikghaaDoorI8Awake
import Derived.Deep.Onto
namespace Go.Proofs.YtkhalknpfikghaaDoor
open Go.RowKit
open I8 (M8)

theorem own_blk {w : World} {B : Nat} {e : TypeId} {a : Option Addr} {n c m : Nat} {xs : List Value} (h : w.ownsRow B e 1 (.slice a n c) m xs) (z : Addr) (hz : a = some z) : B ≤ z.block ∧ z.block < w.heap.size := h.lt z.block (by rw [hz]; rfl)
theorem wpList_append_full {P : Program} {w : World} {ops : Array Oper} {rest : List Oper} {o : Oper} {a : Act} {Q : Exit → Act → World → Prop} (hgd : o.guard = none) (s x : Operand) (t : TypeId)
    (ho : o.op = .call { callee := .builtin .append, args := #[s, x], argTypes := #[t, t] })
    (e : TypeId) (i : TypeInfo) (z : Value) (bytes : Nat) (ht : P.underlying t = some (.slice e)) (hi : P.info? e = some i) (hz : i.zero = some z)
    (hsize : i.size = 1) (hby : i.bytes = bytes) (hzs : z.cells.size = 1)
    (k : IntKind) (ao : Addr) (n : Nat) (zs : List Int) (hs : a.eval s = .slice (some ao) n n) (hn : zs.length = n) (hseg : Seg k w (some ao) zs)
    (ad : Addr) (m c : Nat) (news : List Value) (hx : a.eval x = .slice (some ad) m c) (hl : news.length = m) (hnews : ∀ j u, news[j]? = some u → w.cell? (ad.add j) = some u) (hm : 0 < m)
    (h63 : n + m ≤ maxLen) (hbytes : (n + m) * bytes ≤ 140737488355328)
    (h : ∀ v' w', w'.ownsRow w.heap.size e 1 v' (n + m) (zs.map (Value.int k) ++ news) → w.grownBy w' none → wpList P ops Q rest (a.put o.dst v') w') : wpList P ops Q (o :: rest) a w := by
  refine wpList_plain hgd fun K hK => ?_
  have holds : ∀ j u, (zs.map (Value.int k))[j]? = some u → w.cell? (ao.add j) = some u := by
    intro j u hu
    have hj : j < zs.length := by simpa using (List.getElem?_eq_some_iff.1 hu).1
    rcases hseg with h0 | ⟨b, off, e1, hc⟩
    · rw [h0] at hj; simp at hj
    · simp only [Option.some.injEq] at e1
      subst e1
      rw [Addr.add_lit, hc j hj]
      simp [List.getElem?_eq_getElem hj] at hu
      rw [← hu]
      simp [List.getD, hj]
  obtain ⟨v', w', hrun, r1, r2⟩ := run_append_arg_grows (P := P) w t o.type e i z 1 bytes ht hi hz hsize hby hzs (by decide) ao n n (zs.map (Value.int k)) (by simpa using hn) holds ad m c news (by simpa using hl) hnews (by omega) h63 hbytes
  unfold Oper.wp
  simp [execOp, ho, resolve, invoke, builtin, hs, hx, hrun, Result.andThen]
  exact hK _ _ (h v' w' r1 r2)

theorem append_new {P : Program} {w : World} {ops : Array Oper} {rest : List Oper} {o : Oper} {a : Act} {Q : Exit → Act → World → Prop} (hgd : o.guard = none) (s x : Operand) (t : TypeId)
    (ho : o.op = .call { callee := .builtin .append, args := #[s, x], argTypes := #[t, t] })
    (e : TypeId) (i : TypeInfo) (z : Value) (bytes : Nat) (ht : P.underlying t = some (.slice e)) (hi : P.info? e = some i) (hz : i.zero = some z)
    (hsize : i.size = 1) (hby : i.bytes = bytes) (hzs : z.cells.size = 1)
    (B : Nat) (va : Option Addr) (n : Nat) (l : List Int) (hs : a.eval s = .slice va n n) (hown : w.ownsRow B e 1 (.slice va n n) n (l.map (Value.int .u8)))
    (ad : Addr) (m c : Nat) (zs : List Int) (hx : a.eval x = .slice (some ad) m c) (hm : zs.length = m) (hseg : Seg .u8 w (some ad) zs) (h0 : 0 < m)
    (h63 : n + m ≤ maxLen) (hbytes : (n + m) * bytes ≤ 140737488355328)
    (h : ∀ v' w', w'.ownsRow w.heap.size e 1 v' (n + m) ((l ++ zs).map (Value.int .u8)) → Below w.heap.size w w' → wpList P ops Q rest (a.put o.dst v') w') : wpList P ops Q (o :: rest) a w := by
  have hl : l.length = n := by have := hown.1; simpa using this
  rcases hown.2 with ⟨e0, hn0⟩ | ⟨g, cap, cur, e0, _⟩
  · refine append_split_seg hgd s x t ho w.heap.size e i z bytes ht hi hz hsize hby hzs (.slice none 0 0) 0 [] (by rw [hs]; exact e0) (World.ownsRow_nil _ _ _ _) .u8 (some ad) m c zs hx hm hseg (by omega) (by rw [hn0] at hbytes; simpa using hbytes) (Nat.le_refl _) ?_
    intro v' w' ho' _ hg
    have hl0 : l = [] := List.eq_nil_of_length_eq_zero (by omega)
    refine h v' w' ?_ ((Below.refl _ _).grown hg (Nat.le_refl _) (by intro k hk; simp [Value.ownBlock] at hk))
    rw [hn0, hl0]
    simpa using ho'
  · simp only [Value.slice.injEq, true_and] at e0
    obtain ⟨rfl, rfl⟩ := e0
    refine wpList_append_full hgd s x t ho e i z bytes ht hi hz hsize hby hzs .u8 ⟨g, 0, none⟩ n l hs hl (owns_seg_at hown).1 ad m c (zs.map (Value.int .u8)) hx (by simpa using hm) ?_ h0 h63 hbytes ?_
    · intro j u hu
      have hj : j < zs.length := by simpa using (List.getElem?_eq_some_iff.1 hu).1
      rcases hseg with hn | ⟨b, off, e1, hc⟩
      · rw [hn] at hj; simp at hj
      · simp only [Option.some.injEq] at e1
        subst e1
        rw [Addr.add_lit, hc j hj]
        simp [List.getElem?_eq_getElem hj] at hu
        rw [← hu]
        simp [List.getD, hj]
    · intro v' w' ho' hg
      refine h v' w' ?_ ((Below.refl _ _).grown hg (Nat.le_refl _) (by intro k hk; simp at hk))
      rw [List.map_append]
      exact ho'
structure Marks (w : World) (X m : Nat) (ps : List Part) : Prop where
  parts : Parts w (some ⟨X, 0, none⟩) ps
  len : ps.length = 3
  all : ∀ p ∈ ps, ∀ x ∈ p.l, x = m
def MNew (N X : Nat) (a0 : Option Addr) (ps : List Part) : Prop := N ≤ X ∧ ∀ p ∈ ps, ∀ z, p.a = some z → a0 = some z ∨ N ≤ z.block
theorem Marks.ch {S : Nat → Prop} {w w' : World} {X m N : Nat} {a0 : Option Addr} {ps : List Part} (h : Marks w X m ps) (c : Ch S w w') (k : MNew N X a0 ps) (h1 : ∀ x, N ≤ x → ¬ S x) (h2 : ∀ z, a0 = some z → ¬ S z.block) : Marks w' X m ps := by
  refine ⟨⟨?_, fun p hp => ?_⟩, h.len, h.all⟩
  · rcases h.parts.1 with h0 | ⟨b, off, e, hc⟩
    · exact .inl h0
    · have e' := Option.some.inj e
      simp only [Addr.mk.injEq, and_true] at e'
      refine .inr ⟨b, off, e, fun i hi => c.cell (hc i hi) ?_⟩
      show ¬ S b
      rw [← e'.1]; exact h1 X k.1
  · have h3 := h.parts.2 p hp
    refine ⟨c.seg h3.1 (fun z _ hz => ?_), h3.2⟩
    rcases k.2 p hp z hz with h4 | h4
    · exact h2 z h4
    · exact h1 _ h4
theorem Marks.below {w w' : World} {X m : Nat} {ps : List Part} (h : Marks w X m ps) (c : Below w.heap.size w w') : Marks w' X m ps := by
  refine ⟨⟨?_, fun p hp => (h.parts.2 p hp).old c⟩, h.len, h.all⟩
  rcases h.parts.1 with h0 | ⟨b, off, e, hc⟩
  · exact .inl h0
  · exact .inr ⟨b, off, e, fun i hi => (c.cell (p := ⟨b, off + i, none⟩) (World.block_lt_of_cell? w _ (hc i hi))).trans (hc i hi)⟩
set_option maxHeartbeats 1600000 in
set_option maxRecDepth 100000 in
theorem stand8_any (X m : Nat) (ps : List Part) (w : World) (h : Marks w X m ps) :
    Calls Tryd.prog 18 #[.slice (some ⟨X, 0, none⟩) 3 3, .int .u8 m] w fun e w' => e = .returned (.bool true) ∧ w = w' := by
  have HM : Hid (Marks w X m ps) := h
  have HL : Hid (ps.length = 3) := h.len
  clear h
  go_enter Tryd.func18, Tryd.ntmps18
  go_wp2
  go_loop [5] (fun ix => ∃ k : Nat, ix = .int .i64 k ∧ k ≤ 3) (fun ix => 3 - (intOf ix).toNat)
  case atStart => exact ⟨0, rfl, by omega⟩
  case round =>
    obtain ⟨k, rfl, hk⟩ := hrel
    by_cases hlt : k < 3
    · obtain ⟨p, hp⟩ : ∃ p, ps[k]? = some p := ⟨_, List.getElem?_eq_getElem (by rw [HL.out]; exact hlt)⟩
      have hpm := List.mem_of_getElem? hp
      have hc : w.cell? ⟨X, k, none⟩ = some (.slice p.a p.l.length p.cap) := by
        rcases HM.out.parts.1 with h0 | ⟨b, off, e, hcc⟩
        · rw [h0] at hp; simp at hp
        · have e' := Option.some.inj e
          simp only [Addr.mk.injEq, and_true] at e'
          obtain ⟨rfl, rfl⟩ := e'
          have := hcc k (by rw [HL.out]; exact hlt)
          rw [Nat.zero_add, (List.getElem?_eq_some_iff.1 hp).2] at this
          exact this
      have HSG : Hid (Seg .u8 w p.a (toI p.l)) := (HM.out.parts.2 p hpm).1
      have HAL : Hid (∀ x ∈ p.l, x = m) := HM.out.all p hpm
      have hpc := (HM.out.parts.2 p hpm).2.2
      obtain ⟨D, hD⟩ : ∃ D, D = p.l.length := ⟨_, rfl⟩
      rw [← hD] at hc hpc
      have HD : Hid (p.l.length = D) := hD.symm
      have k0 : (0 : Int) ≤ (k : Int) := by omega
      have k1 : (k : Int) < 3 := by omega
      have k2 : ((k : Int)).toNat = k := by omega
      have hDm : D ≤ 9223372036854775807 := by omega
      clear hp hpm hD hpc
      go_wp2
      go_loop [6] (fun ix => ∃ j : Nat, ix = .int .i64 j ∧ j ≤ D) (fun ix => D - (intOf ix).toNat)
      case atStart => exact ⟨0, rfl, Nat.zero_le _⟩
      case round =>
        obtain ⟨j, rfl, hj⟩ := hrel
        by_cases hjl : j < D
        · obtain ⟨b, off, e, hcc⟩ := seg_at HSG.out j (by rw [HD.out]; exact hjl)
          have cj := hcc j (by rw [HD.out]; exact hjl)
          have ev : p.l.getD j 0 = m := by
            simp only [List.getD, List.getElem?_eq_getElem (show j < p.l.length by rw [HD.out]; exact hjl), Option.getD_some]
            exact HAL.out _ (List.getElem_mem _)
          rw [ev] at cj
          rw [e] at hc
          have j0 : (0 : Int) ≤ (j : Int) := by omega
          have j1 : (j : Int) < (D : Int) := by omega
          have j2 : ((j : Int)).toNat = j := by omega
          have wj : IntKind.i64.wrap ((j : Int) + 1) = (j : Int) + 1 := by rw [IntKind.wrap_i64]; omega
          have q : ((m : Int) != (m : Int)) = false := by simp
          clear e ev hcc
          go_wp2
          go_round
          case rel => exact ⟨j + 1, by go_num, by omega⟩
          case measure => simp [intOf]; omega
        · have hni : ¬ ((j : Int) < (D : Int)) := by omega
          clear hjl
          go_wp2
          go_round
          case rel => exact ⟨k + 1, by go_num, by omega⟩
          case measure => simp [intOf]; omega
    · have hni : ¬ ((k : Int) < 3) := by omega
      clear hlt
      go_wp2
      go_ret
      exact ⟨rfl, rfl⟩
set_option maxHeartbeats 6400000 in
set_option maxRecDepth 100000 in
theorem marked8_any (B : Nat) (va : Option Addr) (n m : Nat) (l : List Nat) (w : World) (ho : w.ownsRow B 5 1 (.slice va n n) n ((toI l).map (Value.int .u8))) (hn : n ≤ 1048576) (hm : m < 256) :
    Calls Tryd.prog 17 #[.slice va n n, .int .u8 m] w fun e w' => ∃ X ps, e = .returned (.slice (some ⟨X, 0, none⟩) 3 3) ∧ Marks w' X m ps ∧ MNew w.heap.size X va ps ∧ Ch (fun q => (Value.slice va n n).ownBlock = some q) w w' := by
  obtain ⟨i0, hi, hz0, hz1, hz2⟩ := info_parts Tryd.infoByte
  have hl : l.length = n := by have := ho.1; simpa [toI] using this
  have HL : Hid (l.length = n) := hl
  have HS0 : Hid (w.ownsRow B 5 1 (.slice va n n) n ((toI (List.replicate 0 m ++ l.drop 0)).map (Value.int .u8)) ∧ Ch (fun q => (Value.slice va n n).ownBlock = some q) w w) := ⟨by simpa using ho, Ch.refl _ _⟩
  have HVA : Hid (0 < n → ∃ g, va = some ⟨g, 0, none⟩) := by
    intro h0
    obtain ⟨g, c, e⟩ := owns_some ho h0
    simp only [Value.slice.injEq] at e
    exact ⟨g, e.1⟩
  clear ho hl
  go_enter Tryd.func17, Tryd.ntmps17
  go_wp2
  go_loopw [5] (fun ix wr => ∃ k : Nat, ix = .int .i64 k ∧ k ≤ n ∧ Hid (wr.ownsRow B 5 1 (.slice va n n) n ((toI (List.replicate k m ++ l.drop k)).map (Value.int .u8)) ∧ Ch (fun q => (Value.slice va n n).ownBlock = some q) w wr)) (fun ix _ => n - (intOf ix).toNat)
  case atStart => exact ⟨0, rfl, Nat.zero_le _, HS0⟩
  case round =>
    obtain ⟨k, rfl, hk, HT⟩ := hrel
    by_cases hlt : k < n
    · obtain ⟨g, rfl⟩ := HVA.out (by omega)
      have hll : (List.replicate k m ++ l.drop k).length = n := by simp [HL.out]; omega
      obtain ⟨g', o', e1, hcs⟩ := seg_at (owns_seg_at HT.out.1).1 k (by rw [hll]; exact hlt)
      have e2 := Option.some.inj e1
      simp only [Addr.mk.injEq, and_true] at e2
      obtain ⟨rfl, rfl⟩ := e2
      have ck := hcs k (by rw [hll]; exact hlt)
      rw [Nat.zero_add] at ck
      have zk := own_fz6 HT.out.1 k
      have k0 : (0 : Int) ≤ (k : Int) := by omega
      have k1 : (k : Int) < (n : Int) := by omega
      have k2 : ((k : Int)).toNat = k := by omega
      have wk : IntKind.i64.wrap ((k : Int) + 1) = (k : Int) + 1 := by rw [IntKind.wrap_i64]; omega
      have HS2 : Hid ((wr.setCell ⟨g, k, none⟩ (.int .u8 (m : Int))).ownsRow B 5 1 (.slice (some ⟨g, 0, none⟩) n n) n ((toI (List.replicate (k + 1) m ++ l.drop (k + 1))).map (Value.int .u8)) ∧ Ch (fun q => (Value.slice (some (⟨g, 0, none⟩ : Addr)) n n).ownBlock = some q) w (wr.setCell ⟨g, k, none⟩ (.int .u8 (m : Int)))) := by
        refine ⟨?_, HT.out.2.set _ _ rfl⟩
        have h1 := set_own6 (i := k) (y := m) HT.out.1 hll
        have e : (List.replicate k m ++ l.drop k).set k m = List.replicate (k + 1) m ++ l.drop (k + 1) := by
          rw [List.set_append_right _ _ (by simp), List.length_replicate, Nat.sub_self, List.drop_eq_getElem_cons (show k < l.length by rw [HL.out]; exact hlt), List.set_cons_zero, List.replicate_succ', List.append_assoc]
          rfl
        rw [e] at h1
        exact h1
      generalize (List.replicate k m ++ l.drop k).getD k 0 = yk at ck
      clear e1 hcs hll
      go_wp2
      go_roundw
      case rel => exact ⟨k + 1, by go_num, by omega, HS2⟩
      case measure => simp [intOf]; omega
    · have hni : ¬ ((k : Int) < (n : Int)) := by omega
      have ekn : k = n := by omega
      have HT1 : Hid (wr.ownsRow B 5 1 (.slice va n n) n ((toI (List.replicate n m)).map (Value.int .u8)) ∧ Ch (fun q => (Value.slice va n n).ownBlock = some q) w wr) := by
        have h1 := HT.out
        rw [ekn, List.drop_of_length_le (by rw [HL.out]; exact Nat.le_refl _), List.append_nil] at h1
        exact h1
      have hsz : w.heap.size ≤ wr.heap.size := HT.out.2.size
      clear hlt ekn HT
      have HO1a : Hid (wr.ownsRow B 5 1 (.slice va n n) n ((toI (List.replicate n m)).map (Value.int .u8))) := HT1.out.1
      go_wp2_with (first | (at_builtin; refine append_new rfl (.tmp 17) (.tmp 19) 25 rfl 5 i0 (.int .u8 0) 1 Tryd.underlying25 hi hz0 hz1 hz2 rfl B va n (toI (List.replicate n m)) rfl (HO1a.out.alloc _) ⟨wr.heap.size, 0, none⟩ 1 1 [(m : Int)] rfl rfl (seg_newz wr [(m : Int)] _) (by decide) (by unfold maxLen; omega) (by omega) ?_))
      intro v1 x1 ow1 bx1
      obtain ⟨g1, c1, rfl⟩ := owns_some ow1 (by omega)
      have hb1 : Below wr.heap.size wr x1 := ((Below.refl _ _).alloc (Nat.le_refl _) (.cells #[.int .u8 (m : Int)] 5)).trans (bx1.mono (by simp))
      have R1 : Hid (x1.ownsRow w.heap.size 5 1 (.slice (some ⟨g1, 0, none⟩) (n + 1) c1) (n + 1) ((toI (List.replicate (n + 1) m)).map (Value.int .u8))) := by
        have hle : w.heap.size ≤ wr.heap.size + 1 := by omega
        have h1 := owns_mono ow1 hle
        have e : (toI (List.replicate (n + 1) m)).map (Value.int .u8) = (toI (List.replicate n m)).map (Value.int .u8) ++ (toI [m]).map (Value.int .u8) := by rw [← List.replicate_append_replicate, show List.replicate 1 m = [m] from rfl]; simp [toI]
        rw [e]
        show x1.ownsRow _ _ _ _ _ _
        simpa [toI] using h1
      clear ow1 bx1
      have HO2a : Hid (x1.ownsRow B 5 1 (.slice va n n) n ((toI (List.replicate n m)).map (Value.int .u8))) := own_below HO1a.out hb1
      go_wp2_with (first | (at_builtin; refine append_new rfl (.tmp 21) (.tmp 25) 25 rfl 5 i0 (.int .u8 0) 1 Tryd.underlying25 hi hz0 hz1 hz2 rfl B va n (toI (List.replicate n m)) rfl (HO2a.out.alloc _) ⟨x1.heap.size, 0, none⟩ 3 3 [(m : Int), (m : Int), (m : Int)] rfl rfl (seg_newz x1 [(m : Int), (m : Int), (m : Int)] _) (by decide) (by unfold maxLen; omega) (by omega) ?_))
      intro v2 x2 ow2 bx2
      obtain ⟨g2, c2, rfl⟩ := owns_some ow2 (by omega)
      have hb2 : Below x1.heap.size x1 x2 := ((Below.refl _ _).alloc (Nat.le_refl _) (.cells #[.int .u8 (m : Int), .int .u8 (m : Int), .int .u8 (m : Int)] 5)).trans (bx2.mono (by simp))
      have R2 : Hid (x2.ownsRow w.heap.size 5 1 (.slice (some ⟨g2, 0, none⟩) (n + 3) c2) (n + 3) ((toI (List.replicate (n + 3) m)).map (Value.int .u8))) := by
        have hle : w.heap.size ≤ x1.heap.size + 1 := by have := hb1.size; omega
        have h1 := owns_mono ow2 hle
        have e : (toI (List.replicate (n + 3) m)).map (Value.int .u8) = (toI (List.replicate n m)).map (Value.int .u8) ++ (toI [m, m, m]).map (Value.int .u8) := by rw [← List.replicate_append_replicate, show List.replicate 3 m = [m, m, m] from rfl]; simp [toI]
        rw [e]
        show x2.ownsRow _ _ _ _ _ _
        simpa [toI] using h1
      clear ow2 bx2
      have R12 : Hid _ := own_below R1.out hb2
      have HBF : Hid (x2.ownsRow B 5 1 (.slice va n n) n ((toI (List.replicate n m)).map (Value.int .u8))) := own_below HO2a.out hb2
      have bAll : Below wr.heap.size wr x2 := bthen hb1 hb2
      have H256 : Hid (∀ j, ∀ x ∈ List.replicate j m, x < 256) := fun j x hx => by rw [List.eq_of_mem_replicate hx]; exact hm
      have HALL : Hid (∀ j, ∀ x ∈ List.replicate j m, x = m) := fun j x hx => List.eq_of_mem_replicate hx
      have p0 := OwnB.part HBF.out (H256.out n)
      have p1 := OwnB.part R12.out (H256.out (n + 1))
      have p2 := OwnB.part R2.out (H256.out (n + 3))
      have HF : Hid (Marks (x2.alloc (.cells #[.slice va n n, .slice (some ⟨g1, 0, none⟩) (n + 1) c1, .slice (some ⟨g2, 0, none⟩) (n + 3) c2] 25)) x2.heap.size m [⟨va, n, List.replicate n m⟩, ⟨some ⟨g1, 0, none⟩, c1, List.replicate (n + 1) m⟩, ⟨some ⟨g2, 0, none⟩, c2, List.replicate (n + 3) m⟩]) := by
        refine ⟨?_, rfl, ?_⟩
        · have h1 := parts_new x2 [⟨va, n, List.replicate n m⟩, ⟨some ⟨g1, 0, none⟩, c1, List.replicate (n + 1) m⟩, ⟨some ⟨g2, 0, none⟩, c2, List.replicate (n + 3) m⟩] 25 (by
            intro p hp
            simp only [List.mem_cons, List.not_mem_nil, or_false] at hp
            rcases hp with rfl | rfl | rfl
            · exact p0
            · exact p1
            · exact p2)
          simp only [List.map_cons, List.map_nil, Part.val, List.length_replicate] at h1
          exact h1
        · intro p hp
          simp only [List.mem_cons, List.not_mem_nil, or_false] at hp
          rcases hp with rfl | rfl | rfl <;> exact HALL.out _
      have HN2 : Hid (MNew w.heap.size x2.heap.size va [⟨va, n, List.replicate n m⟩, ⟨some ⟨g1, 0, none⟩, c1, List.replicate (n + 1) m⟩, ⟨some ⟨g2, 0, none⟩, c2, List.replicate (n + 3) m⟩]) := by
        refine ⟨by have := bAll.size; omega, fun p hp z hz => ?_⟩
        simp only [List.mem_cons, List.not_mem_nil, or_false] at hp
        rcases hp with rfl | rfl | rfl
        · exact .inl hz
        · exact .inr (own_blk R1.out z hz).1
        · exact .inr (own_blk R2.out z hz).1
      have HC : Hid (Ch (fun q => (Value.slice va n n).ownBlock = some q) w (x2.alloc (.cells #[.slice va n n, .slice (some ⟨g1, 0, none⟩) (n + 1) c1, .slice (some ⟨g2, 0, none⟩) (n + 3) c2] 25))) := (HT1.out.2.trans (Ch.ofBelow (S := fun _ => False) bAll) (fun _ _ h => h.elim)).alloc _
      clear p0 p1 p2 bAll hb1 hb2
      go_wp2
      go_ret
      exact ⟨_, _, rfl, HF.out, HN2.out, HC.out⟩
end Go.Proofs.YtkhalknpfikghaaDoor
