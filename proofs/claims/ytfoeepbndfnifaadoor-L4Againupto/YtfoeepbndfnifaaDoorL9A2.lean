/-
  The document's own TcpOptions, of layer 9 (R6Opt's, with the lengths).
-/
/-
  The document's own ParseTcp, of layer 9.
-/
/-
  The document's own ParseUdp, of layer 9.
-/
import Derived.Test.YtfoeepbndfnifaaDoorL9A1
import Derived.Deep.DeepCutAuto
namespace Go.Proofs.YtfoeepbndfnifaaDoor
open Go.RowKit
open I4 (scan Op4)
open L4 (U9 T9)

theorem yields_u8 {ops : Array Oper} {o : Oper} {a : Act} {S : World → Prop} (x : Operand) (ho : o.op = .load 5 x) (p : Addr) (u : Value) (hx : a.eval x = .pointer (some p)) (hw : Region.wanted o (yielded ops a.tmps) = true) (hS : ∀ w, S w → w.cell? p = some u) : YieldsIf Tryd.prog ops S o u a := by
  refine .inl ⟨hw, fun w hb => ?_⟩
  have hc := hS w hb
  have hu := Tryd.underlying5
  obtain ⟨dst, op, type, pos, after, guard⟩ := o
  simp only at ho
  subst ho
  simp only [execOp, Sem.run_bind, Sem.run_pure]
  rw [hx]
  simp [Instr.loadAt, go_sem, hc]
/-- the state of the loop -/
structure RoS (w : World) (bs : List Nat) (v : Value) (i : Nat) (ops : List Op4) (ps : List OpV) (wr : World) : Prop where
  own : wr.ownsRow w.heap.size 68 2 v ps.length (opCs ps)
  rows : ∀ p ∈ ps, wr.ownsRow w.heap.size 5 1 (.slice p.a p.d.length p.c) p.d.length ((toI p.d).map (Value.int .u8))
  vs : vals ps = ops.map (fun o => I4.intO (I4.ov bs o))
  sc : scan bs 0 = (scan bs i).map (fun l => ops ++ l)
  bel : Below w.heap.size w wr
  hi : i ≤ bs.length
  cnt : ops.length ≤ i
  lo : L4.lensOk (ops.map (fun o => I4.intO (I4.ov bs o))) = true
theorem RoS.len {w wr : World} {bs : List Nat} {v : Value} {i : Nat} {ops : List Op4} {ps : List OpV} (h : RoS w bs v i ops ps wr) : ps.length = ops.length := by
  have := congrArg List.length h.vs
  simpa [vals] using this
theorem RoS.below {w wr w' : World} {bs : List Nat} {v : Value} {i : Nat} {ops : List Op4} {ps : List OpV} (h : RoS w bs v i ops ps wr) (b : Below wr.heap.size wr w') : RoS w bs v i ops ps w' :=
  ⟨owns_below h.own b, fun p hp => owns_below (h.rows p hp) b, h.vs, h.sc, h.bel.trans (b.mono h.bel.size), h.hi, h.cnt, h.lo⟩
theorem RoS.opts {w wr : World} {bs : List Nat} {la : Option Addr} {n lc i : Nat} {ops : List Op4} {ps : List OpV} (h : RoS w bs (.slice la n lc) i ops ps wr) (hn : ps.length = n) (h256 : ∀ x ∈ bs, x < 256) : OptsAt wr la ps := by
  have hown := h.own
  rw [hn] at hown
  rcases hown.2 with ⟨_, h0⟩ | ⟨g, cap, cur, e, _, hg, _, _, _, ht⟩
  · left; exact List.eq_nil_of_length_eq_zero (by omega)
  · simp only [Value.slice.injEq, true_and] at e
    obtain ⟨rfl, rfl⟩ := e
    refine .inr ⟨g, 0, rfl, (Array.getElem?_eq_some_iff.1 hg).1, fun j o hj => ?_⟩
    have hpm := List.mem_of_getElem? hj
    have hin : j < n := by have := (List.getElem?_eq_some_iff.1 hj).1; omega
    obtain ⟨c1, c2⟩ := opCs_get ps j o hj
    have d1 := hown.cellAt (j * 2) (by omega)
    have d2 := hown.cellAt (j * 2 + 1) (by omega)
    rw [c1] at d1
    rw [c2] at d2
    obtain ⟨a', c', e1, hsg, _, q1, q2⟩ := owns_seg (h.rows o hpm)
    simp only [Value.slice.injEq, true_and] at e1
    refine ⟨⟨by rw [e1.1]; exact hsg, ?_, by rw [e1.2]; exact q1, by rw [e1.2]; unfold maxLen at q2; exact q2⟩, by rw [Nat.zero_add]; exact d1, by rw [Nat.zero_add]; exact d2⟩
    have hv : o.val ∈ vals ps := List.mem_map.2 ⟨o, hpm, rfl⟩
    rw [h.vs] at hv
    obtain ⟨q, _, hq⟩ := List.mem_map.1 hv
    intro x hx
    have hx2 : x ∈ o.val.2 := hx
    rw [← hq] at hx2
    exact h256 x (List.mem_of_mem_drop (List.mem_of_mem_take hx2))
theorem readO_none1 {bs : List Nat} (h : scan bs 0 = none) : L4.readO bs = none := by
  unfold L4.readO
  split
  · rfl
  · rw [h]
theorem readO_none2 {bs : List Nat} {j : Nat} {ops : List Op4} {o : Op4} (h : scan bs 0 = (scan bs j).map (fun l => (ops ++ [o]) ++ l)) (hb : L4.lenOk (I4.intO (I4.ov bs o)).1 (((I4.intO (I4.ov bs o)).2.length + 2 : Nat) : Int) = false) : L4.readO bs = none := by
  cases hs : scan bs j with
  | none => exact readO_none1 (by rw [h, hs]; rfl)
  | some l =>
    have e : scan bs 0 = some ((ops ++ [o]) ++ l) := by rw [h, hs]; rfl
    unfold L4.readO
    split
    · rfl
    · rw [e]
      have : L4.lensOk (((ops ++ [o]) ++ l).map (fun o => I4.intO (I4.ov bs o))) = false := by
        unfold L4.lensOk
        rw [List.map_append, List.map_append, List.all_append, List.all_append]
        have hb' : ([o].map (fun o => I4.intO (I4.ov bs o))).all (fun o => L4.lenOk o.1 (o.2.length + 2 : Nat)) = false := by simp only [List.map_cons, List.map_nil, List.all_cons, List.all_nil, Bool.and_true]; exact hb
        rw [hb', Bool.and_false, Bool.false_and]
      show (if L4.lensOk (((ops ++ [o]) ++ l).map (fun o => I4.intO (I4.ov bs o))) = true then some ((ops ++ [o]) ++ l) else none) = none
      rw [if_neg (by rw [this]; simp)]
/-- what it answers -/
def ROpt (w : World) (bs : List Nat) (e : Ending) (w' : World) : Prop :=
  (∃ ops lb lc ps, L4.readO bs = some ops ∧ e = .returned (.tuple #[.slice lb ops.length lc, .int .i64 0]) ∧ List.length ps = ops.length ∧ vals ps = ops.map (fun o => I4.intO (I4.ov bs o)) ∧ OptsAt w' lb ps ∧ w'.ownsRow w.heap.size 68 2 (.slice lb ops.length lc) ops.length (opCs ps) ∧ ∀ p ∈ ps, ∀ x, p.a = some x → w.heap.size ≤ x.block) ∨
  (L4.readO bs = none ∧ e = .returned (.tuple #[.slice none 0 0, .int .i64 97]))
set_option maxHeartbeats 6400000 in
set_option maxRecDepth 100000 in
theorem ropts_any (a : Option Addr) (n cap : Nat) (bs : List Nat) (w : World) (hn : bs.length = n) (hs : Seg .u8 w a (toI bs)) (h256 : ∀ x ∈ bs, x < 256) (h2 : n ≤ cap) :
    Calls Tryd.prog 12 #[.slice a n cap] w fun e w' => Below w.heap.size w w' ∧ ROpt w bs e w' := by
  obtain ⟨i0, hi, hz0, hz1, hz2⟩ := info_parts Tryd.infoOpt
  by_cases h40 : 40 < n
  · have HF : Hid (40 < bs.length) := by rw [hn]; exact h40
    have c1 : (40 : Int) < (n : Int) := by omega
    clear hn hs h256 h40
    go_enter Tryd.func12, Tryd.ntmps12
    go_wp2
    go_ret2
    exact ⟨Below.refl _ _, .inr ⟨by unfold L4.readO; rw [if_pos HF.out], rfl⟩⟩
  have HN : Hid (bs.length = n) := hn
  have H256 : Hid (∀ x ∈ bs, x < 256) := h256
  have HSEG : Hid (Seg .u8 w a (toI bs)) := hs
  have HS0 : Hid (RoS w bs (.slice none 0 0) 0 [] [] w) := ⟨World.ownsRow_nil _ _ _ _, by simp, by simp [vals], by cases scan bs 0 <;> simp, Below.refl _ _, Nat.zero_le _, Nat.le_refl _, rfl⟩
  have c1 : ¬ (40 : Int) < (n : Int) := by omega
  have HFIN : Hid (∀ (i : Nat) (v : Value) (ops : List Op4) (ps : List OpV) (wr : World), RoS w bs v i ops ps wr → scan bs i = some [] → Below w.heap.size w wr ∧ ROpt w bs (.returned (.tuple #[v, .int .i64 0])) wr) := by
    intro i v ops ps wr h hsc
    refine ⟨h.bel, .inl ⟨ops, ?_⟩⟩
    obtain ⟨lb, lc, rfl⟩ := owns_shape h.own
    have hl := h.len
    refine ⟨lb, lc, ps, ?_, by rw [hl], hl, h.vs, h.opts rfl h256, ?_⟩
    · have e : scan bs 0 = some ops := by rw [h.sc, hsc]; simp
      unfold L4.readO
      rw [if_neg (by omega), e]
      simp [h.lo]
    · have := h.own; rw [hl] at this; exact ⟨this, fun p hp x hx => (own_blk (h.rows p hp) x hx).1⟩
  clear hn hs h256 h40
  go_enter Tryd.func12, Tryd.ntmps12
  go_wp2
  go_loopw [4, 5] (fun l ix wr => ∃ (i : Nat) (v : Value) (ops : List Op4) (ps : List OpV), v = l ∧ ix = .int .i64 i ∧ i ≤ n ∧ Hid (RoS w bs v i ops ps wr)) (fun _ ix _ => n - (intOf ix).toNat)
  case atStart => exact ⟨0, _, [], [], rfl, rfl, Nat.zero_le _, HS0⟩
  case round =>
    obtain ⟨i, v, ops, ps, rfl, rfl, hin, HS⟩ := hrel
    by_cases hlt : i < n
    case neg =>
      have hk : i = n := by omega
      have hni : ¬ ((i : Int) < (n : Int)) := by omega
      have HSC : Hid (scan bs i = some []) := by show _ = _; rw [scan, dif_neg (by rw [HN.out]; omega)]
      clear hlt hk
      go_wp2
      go_ret2
      exact HFIN.out _ _ _ _ _ HS.out HSC.out
    obtain ⟨b, off, rfl, hc⟩ := seg_at HSEG.out i (by rw [HN.out]; exact hlt)
    have hbl : b < w.heap.size := World.block_lt_of_cell? w _ (hc i (by rw [HN.out]; exact hlt))
    have HC : Hid (∀ A, Below w.heap.size w A → ∀ j, j < n → A.cell? ⟨b, off + j, none⟩ = some (.int .u8 ((bs.getD j 0 : Nat) : Int))) := fun A hA j hj => (hA.cell (p := ⟨b, off + j, none⟩) hbl).trans (hc j (by rw [HN.out]; exact hj))
    have e0 := HC.out wr HS.out.bel i hlt
    have x4 := I4.getD_lt bs H256.out i
    obtain ⟨x, hx⟩ : ∃ x, x = bs.getD i 0 := ⟨_, rfl⟩
    rw [← hx] at e0 x4
    have HX : Hid (x = bs.getD i 0) := hx
    have k0 : (0 : Int) ≤ (i : Int) := by omega
    have k1 : (i : Int) < (n : Int) := by omega
    have k2 : ((i : Int)).toNat = i := by omega
    have w1 : IntKind.i64.wrap ((i : Int) + 1) = (i : Int) + 1 := by rw [IntKind.wrap_i64]; omega
    clear hx hc hbl
    by_cases x0 : x = 0
    · have q0 : ((x : Int) != 0) = false := by simp [x0]
      have HSC : Hid (scan bs i = some []) := by show _ = _; rw [scan, dif_pos (by rw [HN.out]; exact hlt), if_pos (by rw [← HX.out]; exact x0)]
      clear x0
      go_wp2
      go_ret2
      exact HFIN.out _ _ _ _ _ HS.out HSC.out
    have q0 : ((x : Int) != 0) = true := by rw [bne_iff_ne]; omega
    by_cases x1 : x = 1
    · have q1 : ((x : Int) == 1) = true := by simp [x1]
      have HS2 : Hid (RoS w bs v (i + 1) ops ps wr) := by
        have h := HS.out
        refine ⟨h.own, h.rows, h.vs, ?_, h.bel, by rw [HN.out]; omega, by have := h.cnt; omega, h.lo⟩
        have e : scan bs i = scan bs (i + 1) := by
          conv => lhs; rw [scan]
          rw [dif_pos (by rw [HN.out]; exact hlt), if_neg (by rw [← HX.out]; exact x0), if_pos (by rw [← HX.out]; exact x1)]
        rw [← e]; exact h.sc
      clear x0 x1
      go_wp2
      go_roundw
      case rel => exact ⟨i + 1, v, ops, ps, rfl, by go_num, by omega, HS2⟩
      case measure => simp [intOf]; omega
    have q1 : ((x : Int) == 1) = false := by rw [beq_eq_false_iff_ne]; omega
    by_cases hbig : i + 1 < n
    case neg =>
      have l1 : (n : Int) ≤ (i : Int) + 1 := by omega
      have HSC : Hid (scan bs 0 = none) := by
        show _ = _
        rw [HS.out.sc, scan, dif_pos (by rw [HN.out]; exact hlt), if_neg (by rw [← HX.out]; exact x0), if_neg (by rw [← HX.out]; exact x1), dif_neg (by rw [HN.out]; omega)]
        rfl
      clear x0 x1 hbig
      go_wp2
      go_ret2
      exact ⟨HS.out.bel, .inr ⟨readO_none1 HSC.out, rfl⟩⟩
    have l1 : ¬ (n : Int) ≤ (i : Int) + 1 := by omega
    have k3 : (0 : Int) ≤ (i : Int) + 1 := by omega
    have k4 : (i : Int) + 1 < (n : Int) := by omega
    have k5 : ((i : Int) + 1).toNat = i + 1 := by omega
    have e1 := HC.out wr HS.out.bel (i + 1) hbig
    have y4 := I4.getD_lt bs H256.out (i + 1)
    obtain ⟨y, hy⟩ : ∃ y, y = bs.getD (i + 1) 0 := ⟨_, rfl⟩
    rw [← hy] at e1 y4
    have HY : Hid (y = bs.getD (i + 1) 0) := hy
    have w2 : IntKind.i64.wrap ((i : Int) + (y : Int)) = (i : Int) + (y : Int) := by rw [IntKind.wrap_i64]; omega
    clear hy
    have HX01 : Hid (¬ x = 0 ∧ ¬ x = 1) := ⟨x0, x1⟩
    obtain ⟨lk, hlk⟩ : ∃ lk, lk = rlen (x : Int) (y : Int) := ⟨_, rfl⟩
    have QL : Hid (Calls Tryd.prog 40 #[.int .i64 (x : Int), .int .i64 (y : Int)] wr fun e w' => e = .returned (.bool lk) ∧ wr = w') := by rw [hlk]; exact rlen_any _ _ _
    have HLK : Hid (lk = (L4.lenOk (x : Int) (y : Int) && decide ((2 : Int) ≤ (y : Int)))) := by show _ = _; rw [hlk, rlen_eq]
    clear hlk x0 x1
    go_wp2_with fail
    refine Calls.mono QL.out ?_
    rintro e wn ⟨rfl, rfl⟩
    clear QL
    have x0 := HX01.out.1
    have x1 := HX01.out.2
    cases lk with
    | false =>
      have HSC : Hid (L4.readO bs = none) := by
        by_cases hq : 2 ≤ y ∧ i + y ≤ n
        · have hlo : L4.lenOk (x : Int) (y : Int) = false := by
            have := HLK.out
            rw [decide_eq_true (by omega), Bool.and_true] at this
            exact this.symm
          have hst : scan bs 0 = (scan bs (i + y)).map (fun l => (ops ++ [⟨x, i + 2, y - 2⟩]) ++ l) := by
            rw [HS.out.sc]
            conv => lhs; rw [scan]
            rw [dif_pos (by rw [HN.out]; exact hlt), if_neg (by rw [← HX.out]; exact x0), if_neg (by rw [← HX.out]; exact x1), dif_pos (by rw [HN.out, ← HY.out]; omega), ← HX.out, ← HY.out]
            cases scan bs (i + y) <;> simp
          refine readO_none2 hst ?_
          have e1 : (I4.intO (I4.ov bs ⟨x, i + 2, y - 2⟩)).1 = (x : Int) := rfl
          have e2 : (I4.intO (I4.ov bs ⟨x, i + 2, y - 2⟩)).2.length = y - 2 := by
            show ((bs.drop (i + 2)).take (y - 2)).length = y - 2
            rw [List.length_take, List.length_drop, HN.out]
            omega
          rw [e1, e2, show ((y - 2 + 2 : Nat) : Int) = (y : Int) by omega]
          exact hlo
        · refine readO_none1 ?_
          rw [HS.out.sc, scan, dif_pos (by rw [HN.out]; exact hlt), if_neg (by rw [← HX.out]; exact x0), if_neg (by rw [← HX.out]; exact x1), dif_neg (by rw [HN.out, ← HY.out]; omega)]
          rfl
      clear x0 x1 hbig
      go_wp2
      go_ret2
      exact ⟨HS.out.bel, .inr ⟨HSC.out, rfl⟩⟩
    | true =>
    have hy2 : ¬ y < 2 := by
      intro hq
      have := HLK.out
      rw [decide_eq_false (by omega), Bool.and_false] at this
      cases this
    have HLO : Hid (L4.lenOk (x : Int) (y : Int) = true) := by
      have := HLK.out
      rw [decide_eq_true (by omega), Bool.and_true] at this
      exact this.symm
    by_cases hfit : i + y ≤ n
    case neg =>
      have l3 : (n : Int) < (i : Int) + (y : Int) := by omega
      have HSC : Hid (scan bs 0 = none) := by
        show _ = _
        rw [HS.out.sc, scan, dif_pos (by rw [HN.out]; exact hlt), if_neg (by rw [← HX.out]; exact x0), if_neg (by rw [← HX.out]; exact x1), dif_neg (by rw [HN.out, ← HY.out]; omega)]
        rfl
      clear x0 x1 hbig hy2 hfit
      go_wp2
      go_ret2
      exact ⟨HS.out.bel, .inr ⟨readO_none1 HSC.out, rfl⟩⟩
    have l3 : ¬ (n : Int) < (i : Int) + (y : Int) := by omega
    obtain ⟨D, hD⟩ : ∃ D, y = D + 2 := ⟨y - 2, by omega⟩
    have HD : Hid (y = D + 2) := hD
    have HSTEP : Hid (scan bs 0 = (scan bs (i + y)).map (fun l => (ops ++ [⟨x, i + 2, D⟩]) ++ l)) := by
      show _ = _
      rw [HS.out.sc]
      conv => lhs; rw [scan]
      rw [dif_pos (by rw [HN.out]; exact hlt), if_neg (by rw [← HX.out]; exact x0), if_neg (by rw [← HX.out]; exact x1), dif_pos (by rw [HN.out, ← HY.out]; omega), ← HX.out, ← HY.out]
      have e : y - 2 = D := by omega
      rw [e]
      cases scan bs (i + y) <;> simp
    have w3 : IntKind.i64.wrap ((i : Int) + 2) = (i : Int) + 2 := by rw [IntKind.wrap_i64]; omega
    have m0 : (0 : Int) ≤ (i : Int) + 2 := by omega
    have m1 : (i : Int) + 2 ≤ (i : Int) + (y : Int) := by omega
    have m2 : (i : Int) + (y : Int) ≤ (cap : Int) := by omega
    have m3 : ((i : Int) + 2).toNat = i + 2 := by omega
    have m4 : ((i : Int) + (y : Int)).toNat = i + y := by omega
    have m5 : i + y - (i + 2) = D := by omega
    have hDn : i + 2 + D ≤ n := by omega
    clear hD
    have HDD : Hid (Seg .u8 w (some ⟨b, off + (i + 2), none⟩) (toI ((bs.drop (i + 2)).take D))) := by
      have := HSEG.out.part (i + 2) D (by rw [toI_len, HN.out]; omega)
      rw [toI_drop, toI_take] at this
      show Seg .u8 w (some ⟨b, off + (i + 2), none⟩) _
      simpa [Addr.add] using this
    have HDL : Hid (((bs.drop (i + 2)).take D).length = D) := by show _ = _; rw [List.length_take, List.length_drop, HN.out]; omega
    have QQ : Hid (∀ (A : World) (ad : Option Addr) (cc : Nat), Below w.heap.size w A → (D = 0 ∨ ad = some ⟨b, off + (i + 2), none⟩) → Calls Tryd.prog 5 #[.slice ad D cc] A fun e w' => ∃ v, e = .returned v ∧ w'.ownsRow A.heap.size 5 1 v D ((toI ((bs.drop (i + 2)).take D)).map (Value.int .u8)) ∧ Below A.heap.size A w') := by
      intro A ad cc hA had
      refine copied_any ad D cc _ A HDL.out ?_ (by omega)
      rcases had with h0 | rfl
      · left; rw [h0]; rfl
      · exact HDD.out.old hA
    obtain ⟨dd, hdd⟩ : ∃ dd, dd = (bs.drop (i + 2)).take D := ⟨_, rfl⟩
    have HDV : Hid (dd = (bs.drop (i + 2)).take D) := hdd
    rw [← hdd] at QQ HDL
    have HX4 : Hid (∀ A, Below w.heap.size w A → A.cell? ⟨b, off + i, none⟩ = some (.int .u8 (x : Int))) := fun A hA => by rw [HX.out]; exact HC.out A hA i hlt
    have hyl : i < i + y ∧ i + y ≤ n := by omega
    have HYL : Hid (i < i + y ∧ i + y ≤ n) := hyl
    obtain ⟨ad, had⟩ : ∃ ad, (if cap = i + 2 then some (⟨b, off, none⟩ : Addr) else some ⟨b, off + (i + 2), none⟩) = ad := ⟨_, rfl⟩
    have HAD : Hid (D = 0 ∨ ad = some ⟨b, off + (i + 2), none⟩) := by
      show _ ∨ _
      rw [← had]
      by_cases e : cap = i + 2
      · left; omega
      · right; rw [if_neg e]
    clear x0 x1 hbig hy2 hfit hdd hyl
    go_upto_region 14 with fail
    refine MixH.start (fun x => Below w.heap.size w x) (by kernel_rfl) ?_
    obtain ⟨wA, hwA⟩ : ∃ wA, wA = wr.drew := ⟨_, rfl⟩
    have HSA : Hid (RoS w bs v i ops ps wA) := by rw [hwA]; exact HS.out.below (Below.refl _ _).drew
    have hS : Below w.heap.size w wA := HSA.out.bel
    rw [← hwA]
    clear hwA HS e0 e1
    refine MixH.takes [true, true, true, true, false, false, true, true, true, true, true, true] 8 (by kernel_rfl) (by kernel_rfl) (by decide) (by kernel_rfl) hS (fun K hK => ?_)
    simp only [Mix.pick]
    repeat (go_big_quiet_step (fail))
    refine wpQuiet_nil (hK _ ?_)
    clear hK K
    refine MixH.take 7 4 _ (.int .u8 (x : Int)) rfl (by kernel_rfl) (by kernel_rfl) (by kernel_rfl) (by kernel_rfl) (yields_u8 (.tmp 60) rfl ⟨b, off + i, none⟩ _ rfl rfl HX4.out) hS (fun a' ha => ?_)
    simp only [Act.put, List.setIfInBounds_toArray, List.set_cons_succ, List.set_cons_zero] at ha
    subst ha
    refine MixH.takes [false, false, false, false, false, true, false, false, false, false, false, false, true] 5 (by kernel_rfl) (by kernel_rfl) (by decide) (by kernel_rfl) hS (fun K hK => ?_)
    simp only [Mix.pick]
    repeat (go_big_quiet_step (fail))
    refine wpQuiet_nil (hK _ ?_)
    clear hK K
    try rw [had]
    clear had
    refine MixH.one [false, false, false, false, false, false, false, false, false, false, false, false, false, true] 4 13 _ rfl rfl (by kernel_rfl) (by kernel_rfl) (fun K hK => ?_)
    simp only [Mix.pick]
    go_wp2_with fail
    refine Calls.mono (QQ.out wA ad _ hS HAD.out) ?_
    rintro e w1 ⟨v1, rfl, ho1, hb1⟩
    obtain ⟨va, vc, rfl⟩ := owns_shape ho1
    have HSB : Hid (RoS w bs v i ops ps w1) := HSA.out.below hb1
    have HO1 : Hid (w1.ownsRow w.heap.size 5 1 (.slice va D vc) D ((toI dd).map (Value.int .u8))) := owns_mono ho1 hS.size
    replace hS : Below w.heap.size w w1 := HSB.out.bel
    clear ho1 hb1 HSA QQ
    go_wp2
    refine ⟨rfl, hK _ _ hS ?_⟩
    clear hK K
    refine MixH.one [false, false, false, false, false, false, false, false, false, false, false, false, false, false, true] 3 14 _ rfl rfl (by kernel_rfl) (by kernel_rfl) (fun K hK => ?_)
    simp only [Mix.pick]
    go_wp2
    refine ⟨rfl, hK _ _ hS ?_⟩
    clear hK K
    refine MixH.one [false, false, false, false, false, false, false, false, false, false, false, false, false, false, false, true] 2 15 _ rfl rfl (by kernel_rfl) (by kernel_rfl) (fun K hK => ?_)
    simp only [Mix.pick]
    have hSn : Below w.heap.size w (w1.alloc (.cells #[.int .i64 x, .slice va D vc] 68)) := hS.alloc hS.size _
    go_wp2
    clear hS
    have hS := hSn
    refine ⟨rfl, hK _ _ hS ?_⟩
    clear hK K
    obtain ⟨w2, hw2⟩ : ∃ w2, w2 = w1.alloc (.cells #[.int .i64 x, .slice va D vc] 68) := ⟨_, rfl⟩
    have b12 : Below w1.heap.size w1 w2 := by rw [hw2]; exact (Below.refl _ _).alloc (Nat.le_refl _) _
    have HSC : Hid (RoS w bs v i ops ps w2) := HSB.out.below b12
    have HO2 : Hid (w2.ownsRow w.heap.size 5 1 (.slice va D vc) D ((toI dd).map (Value.int .u8))) := owns_below HO1.out b12
    have TWO : Hid (∀ j u, ([.int .i64 x, .slice va D vc] : List Value)[j]? = some u → w2.cell? ((⟨w1.heap.size, 0, none⟩ : Addr).add j) = some u) := by rw [hw2]; exact two_new _ _ _ _
    obtain ⟨K0, hK0⟩ : ∃ K0, K0 = ps.length := ⟨_, rfl⟩
    have hown : w2.ownsRow w.heap.size 68 2 v K0 (opCs ps) := by rw [hK0]; exact HSC.out.own
    have hK1 : K0 ≤ n := by have h1 := HSC.out.cnt; have h2 := HSC.out.len; omega
    have HK0 : Hid (K0 = ps.length) := hK0
    have hsz : w.heap.size ≤ w2.heap.size := HSC.out.bel.size
    rw [← hw2] at hS hSn ⊢
    clear hw2 b12 HSB HO1 hSn hK0
    refine MixH.one [false, false, false, false, false, false, false, false, false, false, false, false, false, false, false, false, true] 1 16 _ rfl rfl (by kernel_rfl) (by kernel_rfl) (fun K hK => ?_)
    simp only [Mix.pick]
    refine wpList_append_own_at _ rfl (.tmp 57) (.tmp 72) 43 rfl w.heap.size 68 i0 _ 2 32 Tryd.underlying43 hi hz0 hz1 hz2 rfl (by decide) v K0 (opCs ps) rfl hown ⟨w1.heap.size, 0, none⟩ 1 1 [.int .i64 x, .slice va D vc] rfl rfl TWO.out ?oc2 ?oc3 ?oc4 hsz ?_
    case oc2 => intro u hu; simp at hu; rcases hu with rfl | rfl <;> rfl
    case oc3 => unfold maxLen; omega
    case oc4 => omega
    intro v5 w5 ho5 hg5 _ hblk
    have HS5 : Hid (RoS w bs v5 (i + y) (ops ++ [⟨x, i + 2, D⟩]) (ps ++ [⟨x, va, vc, dd⟩]) w5) := by
      have hne : 5 ≠ 68 := by decide
      refine ⟨?_, ?_, ?_, HSTEP.out, ?_, by rw [HN.out]; exact HYL.out.2, ?_, ?_⟩
      · rw [opCs_snoc, List.length_append, ← HK0.out]
        have e2 : opC9 ⟨x, va, vc, dd⟩ = [.int .i64 x, .slice va D vc] := by rw [opC9, HDL.out]
        rw [e2]
        exact ho5
      · intro p hp
        rcases List.mem_append.1 hp with hp | hp
        · exact (HSC.out.rows p hp).kept hg5 (apartN (HSC.out.rows p hp) HSC.out.own hne)
        · simp at hp
          subst hp
          show w5.ownsRow w.heap.size 5 1 (.slice va dd.length vc) dd.length _
          rw [HDL.out]
          exact HO2.out.kept hg5 (apartN HO2.out HSC.out.own hne)
      · rw [vals, List.map_append, List.map_append]
        have := HSC.out.vs
        rw [vals] at this
        rw [this, HDV.out]
        rfl
      · exact HSC.out.bel.grown hg5 hsz (fun q hq => (HSC.out.own.lt q hq).1)
      · have := HSC.out.cnt
        have := HYL.out
        rw [List.length_append]
        simp
        omega
      · unfold L4.lensOk
        rw [List.map_append, List.all_append]
        have h1 := HSC.out.lo
        unfold L4.lensOk at h1
        rw [h1]
        have e1 : (I4.intO (I4.ov bs ⟨x, i + 2, D⟩)).1 = (x : Int) := rfl
        have e2 : (I4.intO (I4.ov bs ⟨x, i + 2, D⟩)).2.length = D := by
          show ((bs.drop (i + 2)).take D).length = D
          rw [← HDV.out]
          exact HDL.out
        simp only [List.map_cons, List.map_nil, List.all_cons, List.all_nil, Bool.and_true, Bool.true_and]
        rw [e1, e2, show ((D + 2 : Nat) : Int) = (y : Int) by have := HD.out; omega]
        exact HLO.out
    replace hS : Below w.heap.size w w5 := HS5.out.bel
    clear ho5 hg5 hblk hown HSC HO2 TWO
    go_wp2
    refine ⟨rfl, hK _ _ hS ?_⟩
    clear hK K
    refine MixH.takes [false, false, false, false, false, false, false, false, false, false, false, false, false, false, false, false, false, true] 0 (by kernel_rfl) (by kernel_rfl) (by decide) (by kernel_rfl) hS (fun K hK => ?_)
    simp only [Mix.pick]
    repeat (go_big_quiet_step (fail))
    refine wpQuiet_nil (hK _ ?_)
    clear hK K
    refine MixH.done (by kernel_rfl) ?_
    go_wp2
    go_roundw
    case rel => exact ⟨i + y, v5, _, _, rfl, by go_num, HYL.out.2, HS5⟩
    case measure => have := HYL.out; simp [intOf]; omega
end Go.Proofs.YtfoeepbndfnifaaDoor
namespace Go.Proofs.YtfoeepbndfnifaaDoor
open Go.RowKit
open L4 (U9 T9)
theorem numB2 (bs : List Nat) (p : Nat) : numB bs p 2 = bs.getD p 0 * 256 + bs.getD (p + 1) 0 := by
  simp only [numB, Nat.add_zero, Nat.mul_zero, Nat.zero_add]
  omega
theorem numB4 (bs : List Nat) (p : Nat) : numB bs p 4 = ((bs.getD p 0 * 256 + bs.getD (p + 1) 0) * 256 + bs.getD (p + 2) 0) * 256 + bs.getD (p + 3) 0 := by
  simp only [numB, Nat.add_zero, Nat.mul_zero, Nat.zero_add]
  omega
set_option maxHeartbeats 12800000 in
set_option maxRecDepth 100000 in
theorem rparseT_full (V U : Int) (x y : Nat → Nat) (a : Option Addr) (n cap : Nat) (bs : List Nat) (w : World) (hd : DOk w bs a n cap) (hx : ∀ i, i < 16 → x i < 256) (hy : ∀ i, i < 16 → y i < 256) :
    Calls Tryd.prog 10 #[.agg (ipCells V x), .agg (ipCells U y), .slice a n cap] w fun e w' => ∃ (er : Nat) (t : T9) (la : Option Addr) (ln lc : Nat) (os : List OpV) (da : Option Addr) (m mc : Nat), e = .returned (.tuple #[.agg (tC t la ln lc da m mc), .int .i64 (er : Nat)]) ∧ Below w.heap.size w w' ∧ er = L4.tPE (psOk V U x y) (psL V U x y 6 (n : Nat)) bs ∧ TOk w' t la ln os da m mc ∧ (er = 0 → t = L4.tP bs) ∧ (er ≠ 0 → t = t9z ∧ la = none ∧ ln = 0 ∧ lc = 0 ∧ os = [] ∧ da = none ∧ m = 0 ∧ mc = 0) ∧ (∀ z, la = some z → w.heap.size ≤ z.block) ∧ (∀ o ∈ os, ∀ z, o.a = some z → w.heap.size ≤ z.block) := by
  obtain ⟨A, hA⟩ : ∃ A, A = ipCells V x := ⟨_, rfl⟩
  obtain ⟨C, hC⟩ : ∃ C, C = ipCells U y := ⟨_, rfl⟩
  have hx1 := boxed_new w V x 24
  have hy1 := boxed_new (w.alloc (.cells (ipCells V x) 24)) U y 24
  rw [World.size_alloc] at hy1
  have hx2 := hx1.old ((Below.refl _ _).alloc (Nat.le_refl _) (.cells (ipCells U y) 24))
  clear hx1
  rw [← hA] at hx2 hy1 ⊢
  rw [← hC] at hx2 hy1 ⊢
  have s2 : ((w.alloc (.cells A 24)).alloc (.cells C 24)).heap.size = w.heap.size + 1 + 1 := by simp
  have hr := tAt_new ((w.alloc (.cells A 24)).alloc (.cells C 24)) t9z none 0 0 none 0 0
  rw [s2] at hr
  have b3 : Below ((w.alloc (.cells A 24)).alloc (.cells C 24)).heap.size ((w.alloc (.cells A 24)).alloc (.cells C 24)) (((w.alloc (.cells A 24)).alloc (.cells C 24)).alloc (.cells (tC t9z none 0 0 none 0 0) 45)) := (Below.refl _ _).alloc (Nat.le_refl _) _
  have hx3 := hx2.old b3
  have hy3 := hy1.old b3
  have bel : Below w.heap.size w (((w.alloc (.cells A 24)).alloc (.cells C 24)).alloc (.cells (tC t9z none 0 0 none 0 0) 45)) := (((Below.refl _ _).alloc (Nat.le_refl _) _).alloc (by simp) _).alloc (by simp; omega) _
  clear hx2 hy1 b3 s2
  obtain ⟨W, hW⟩ : ∃ W, W = ((w.alloc (.cells A 24)).alloc (.cells C 24)).alloc (.cells #[.int .i64 0, .int .i64 0, .int .i64 0, .int .i64 0, .int .i64 0, .int .i64 0, .int .i64 0, .slice none 0 0, .slice none 0 0] 45) := ⟨_, rfl⟩
  have hW2 : W = ((w.alloc (.cells A 24)).alloc (.cells C 24)).alloc (.cells (tC t9z none 0 0 none 0 0) 45) := hW
  rw [← hW2] at hr hx3 hy3 bel
  obtain ⟨B, hB⟩ : ∃ B, B = w.heap.size := ⟨_, rfl⟩
  have HB : Hid (w.heap.size = B) := hB.symm
  rw [← hB] at hr hx3 hy3
  obtain ⟨O, hO⟩ : ∃ O, O = B + 1 + 1 := ⟨_, rfl⟩
  rw [← hO] at hr
  have HW : Hid (((w.alloc (.cells A 24)).alloc (.cells C 24)).alloc (.cells #[.int .i64 0, .int .i64 0, .int .i64 0, .int .i64 0, .int .i64 0, .int .i64 0, .int .i64 0, .slice none 0 0, .slice none 0 0] 45) = W) := hW.symm
  have HO : Hid (B + 1 + 1 = O) := hO.symm
  have HO2 : Hid (w.heap.size + 2 = O) := by show _ = _; rw [hO, hB]
  have HR : Hid (TAt W O t9z none 0 0 none 0 0) := hr
  have HX : Hid (∀ i, i < 16 → x i < 256) := hx
  have HY : Hid (∀ i, i < 16 → y i < 256) := hy
  have HXB : Hid (Boxed W B V x) := hx3
  have HYB : Hid (Boxed W (B + 1) U y) := hy3
  clear hB hW hW2 hr hx3 hy3 hO hx hy hA hC
  have HD : Hid (∀ A, Below w.heap.size w A → DOk A bs a n cap) := fun A hA => hd.old hA
  have HN : Hid (bs.length = n) := hd.dl
  have h2 := hd.cap
  have h3 := hd.top
  obtain ⟨E, hE⟩ : ∃ E, E = L4.tPE (psOk V U x y) (psL V U x y 6 (n : Nat)) bs := ⟨_, rfl⟩
  rw [← hE]
  have HEX : Hid _ := hE
  unfold L4.tPE at HEX
  rw [hd.dl] at HEX
  obtain ⟨W8, hW8⟩ : ∃ W8, W8 = W.alloc (.cells #[.int .i64 0, .int .i64 0, .int .i64 0, .int .i64 0, .int .i64 0, .int .i64 0, .int .i64 0, .slice none 0 0, .slice none 0 0] 45) := ⟨_, rfl⟩
  have hb8 : Below W.heap.size W W8 := by rw [hW8]; exact (Below.refl _ _).alloc (Nat.le_refl _) _
  obtain ⟨O8, hO8⟩ : ∃ O8, O8 = W.heap.size := ⟨_, rfl⟩
  have HZ0 : Hid (TAt W8 O8 t9z none 0 0 none 0 0) := by rw [hW8, hO8]; exact tAt_new W t9z none 0 0 none 0 0
  have HR0 : Hid (TAt W8 O t9z none 0 0 none 0 0) := HR.out.below hb8
  have HX0 : Hid (Boxed W8 B V x) := HXB.out.old hb8
  have HY0 : Hid (Boxed W8 (B + 1) U y) := HYB.out.old hb8
  have bel0 := bthen bel hb8
  have HW8 : Hid (W.alloc (.cells #[.int .i64 0, .int .i64 0, .int .i64 0, .int .i64 0, .int .i64 0, .int .i64 0, .int .i64 0, .slice none 0 0, .slice none 0 0] 45) = W8 ∧ W.heap.size = O8) := ⟨hW8.symm, hO8.symm⟩
  have HO8 : Hid (O < O8) := by rw [hO8]; exact HR.out.lt
  have QF : Hid _ := rfit_any V U x y W8
  have HG : Hid (psOk V U x y = true → n ≤ 65535 → ∀ A, Below w.heap.size w A → Calls Tryd.prog 36 #[.agg (ipCells V x), .agg (ipCells U y), .int .i64 6, .slice a n cap] A fun e w' => e = .returned (.bool (decide (S.fold (S.wv false (psL V U x y 6 (n : Nat) ++ bs)) = 65535))) ∧ Below A.heap.size A w') := fun hok h1 A hA => rgood9_any V U x y 6 a n cap bs A hok (by omega) h1 HX.out HY.out (hd.old hA)
  obtain ⟨ok, hok⟩ : ∃ ok, ok = psOk V U x y := ⟨_, rfl⟩
  rw [← hok] at QF HEX HG
  clear hok hE hd HR HXB HYB hW8 hO8 hb8 bel
  go_enter Tryd.func10, Tryd.ntmps10
  go_upto_region 1 with fail
  rw [HB.out, HO.out, HW.out]
  go_upto_region 2 with fail
  rw [HW8.out.2, HW8.out.1]
  clear HW8 HW HB HO
  by_cases c1 : 65535 < n
  · have c1' : (65535 : Int) < (n : Int) := by omega
    rw [if_pos c1] at HEX
    have HE : Hid (E = 2) := HEX.out
    clear c1 HEX
    go_wp2_with (first | (refine wpList_load_t9 (.tmp 8) rfl O8 t9z none 0 0 none 0 0 rfl HZ0.out rfl ?_) | (refine wpList_store_t9 (.tmp 6) _ rfl rfl O t9z none 0 0 none 0 0 t9z none 0 0 none 0 0 rfl rfl HR0.out rfl ?_))
    intro wE hRE kE
    have HRE : Hid (TAt wE O t9z none 0 0 none 0 0) := hRE
    have HFE : Hid (Below w.heap.size w wE) := bel0.trans (kE.below (fun q e => by have e' : q = O := e; have := HO2.out; omega) bel0.size)
    clear hRE kE
    go_wp2
    (try simp only [Exit.inBlock, Exit.then])
    refine bodyPost_ret (results_t9_tmp rfl _ _ O t9z none 0 0 none 0 0 rfl HRE.out) rfl ?_
    exact ⟨E, t9z, none, 0, 0, [], none, 0, 0, (by rw [HE.out]; rfl), HFE.out, rfl, t_zero _, (fun h => by rw [HE.out] at h; cases h), (fun _ => ⟨rfl, rfl, rfl, rfl, rfl, rfl, rfl, rfl⟩), (fun z hz => by cases hz), (fun o ho => by cases ho)⟩
  rw [if_neg c1] at HEX
  have c1' : ¬ (65535 : Int) < (n : Int) := by omega
  have c1b : n ≤ 65535 := by omega
  clear c1
  go_wp2_with (first | (refine wpList_load_ip (.tmp 3) rfl B V x rfl HX0.out rfl ?_) | (refine wpList_load_ip (.tmp 4) rfl (B + 1) U y rfl HY0.out rfl ?_))
  refine Calls.mono QF.out ?_
  rintro e w1 ⟨rfl, hb1⟩
  have bel1 := bthen bel0 hb1
  have HR1 : Hid (TAt w1 O t9z none 0 0 none 0 0) := HR0.out.below hb1
  have HZ1 : Hid (TAt w1 O8 t9z none 0 0 none 0 0) := HZ0.out.below hb1
  have HX1 : Hid (Boxed w1 B V x) := HX0.out.old hb1
  have HY1 : Hid (Boxed w1 (B + 1) U y) := HY0.out.old hb1
  clear HR0 HZ0 HX0 HY0
  clear QF hb1 bel0
  cases ok with
  | false =>
    have HE : Hid (E = 20) := HEX.out
    clear HEX
    go_wp2_with (first | (refine wpList_load_t9 (.tmp 8) rfl O8 t9z none 0 0 none 0 0 rfl HZ1.out rfl ?_) | (refine wpList_store_t9 (.tmp 6) _ rfl rfl O t9z none 0 0 none 0 0 t9z none 0 0 none 0 0 rfl rfl HR1.out rfl ?_))
    intro wE hRE kE
    have HRE : Hid (TAt wE O t9z none 0 0 none 0 0) := hRE
    have HFE : Hid (Below w.heap.size w wE) := bel1.trans (kE.below (fun q e => by have e' : q = O := e; have := HO2.out; omega) bel1.size)
    clear hRE kE
    go_wp2
    (try simp only [Exit.inBlock, Exit.then])
    refine bodyPost_ret (results_t9_tmp rfl _ _ O t9z none 0 0 none 0 0 rfl HRE.out) rfl ?_
    exact ⟨E, t9z, none, 0, 0, [], none, 0, 0, (by rw [HE.out]; rfl), HFE.out, rfl, t_zero _, (fun h => by rw [HE.out] at h; cases h), (fun _ => ⟨rfl, rfl, rfl, rfl, rfl, rfl, rfl, rfl⟩), (fun z hz => by cases hz), (fun o ho => by cases ho)⟩
  | true =>
  rw [if_pos rfl] at HEX
  have HGD : Hid _ := HG.out rfl c1b
  clear HG
  by_cases c2 : n < 20
  · have c2' : (n : Int) < 20 := by omega
    rw [if_pos c2] at HEX
    have HE : Hid (E = 94) := HEX.out
    clear c2 HEX
    go_wp2_with (first | (refine wpList_load_t9 (.tmp 8) rfl O8 t9z none 0 0 none 0 0 rfl HZ1.out rfl ?_) | (refine wpList_store_t9 (.tmp 6) _ rfl rfl O t9z none 0 0 none 0 0 t9z none 0 0 none 0 0 rfl rfl HR1.out rfl ?_))
    intro wE hRE kE
    have HRE : Hid (TAt wE O t9z none 0 0 none 0 0) := hRE
    have HFE : Hid (Below w.heap.size w wE) := bel1.trans (kE.below (fun q e => by have e' : q = O := e; have := HO2.out; omega) bel1.size)
    clear hRE kE
    go_wp2
    (try simp only [Exit.inBlock, Exit.then])
    refine bodyPost_ret (results_t9_tmp rfl _ _ O t9z none 0 0 none 0 0 rfl HRE.out) rfl ?_
    exact ⟨E, t9z, none, 0, 0, [], none, 0, 0, (by rw [HE.out]; rfl), HFE.out, rfl, t_zero _, (fun h => by rw [HE.out] at h; cases h), (fun _ => ⟨rfl, rfl, rfl, rfl, rfl, rfl, rfl, rfl⟩), (fun z hz => by cases hz), (fun o ho => by cases ho)⟩
  rw [if_neg c2] at HEX
  have c2' : ¬ (n : Int) < 20 := by omega
  have c20 : 20 ≤ n := by omega
  clear c2
  obtain ⟨b, off, rfl, hc⟩ := seg_at (HD.out w1 bel1).seg 0 (by rw [HN.out]; omega)
  have hbl : b < w.heap.size := by
    obtain ⟨b', off', e', hc'⟩ := seg_at (HD.out w (Below.refl _ _)).seg 0 (by rw [HN.out]; omega)
    simp only [Option.some.injEq, Addr.mk.injEq, and_true] at e'
    obtain ⟨rfl, rfl⟩ := e'
    exact World.block_lt_of_cell? w _ (hc' 0 (by rw [HN.out]; omega))
  have HC : Hid (∀ A, Below w.heap.size w A → ∀ j, j < n → A.cell? ⟨b, off + j, none⟩ = some (.int .u8 ((bs.getD j 0 : Nat) : Int))) := by
    intro A hA j hj
    obtain ⟨b', off', e', hc'⟩ := seg_at (HD.out A hA).seg 0 (by rw [HN.out]; omega)
    simp only [Option.some.injEq, Addr.mk.injEq, and_true] at e'
    obtain ⟨rfl, rfl⟩ := e'
    exact hc' j (by rw [HN.out]; exact hj)
  have x12 := I4.getD_lt bs (HD.out w1 bel1).d256 12
  have HX13 : Hid (bs.getD 13 0 < 256) := I4.getD_lt bs (HD.out w1 bel1).d256 13
  have e12 := HC.out w1 bel1 12 (by omega)
  obtain ⟨b12, hb12⟩ : ∃ b12, b12 = bs.getD 12 0 := ⟨_, rfl⟩
  rw [← hb12] at e12 x12
  obtain ⟨hd, hhd⟩ : ∃ hd, hd = b12 / 16 * 4 := ⟨_, rfl⟩
  have HH : Hid (L4.tH bs = hd) := by show _ = _; rw [hhd, hb12]; rfl
  rw [HH.out] at HEX
  have q1 : IntKind.u8.wrap ((b12 : Int) / 16) = (b12 : Int) / 16 := by rw [IntKind.wrap_u8]; omega
  have q2 : IntKind.i64.wrap ((b12 : Int) / 16) = (b12 : Int) / 16 := by rw [IntKind.wrap_i64]; omega
  have q3 : IntKind.i64.wrap ((b12 : Int) / 16 * 4) = (b12 : Int) / 16 * 4 := by rw [IntKind.wrap_i64]; omega
  have e4 : (b12 : Int) / 16 * 4 = (hd : Int) := by omega
  have hd60 : hd ≤ 60 := by omega
  clear hc hbl hb12 hhd
  go_upto_region 10 with fail
  try rw [e4]
  clear e4 q1 q2 q3 e12 x12
  by_cases cS : hd < 20
  · have cS' : (hd : Int) < 20 := by omega
    rw [if_pos (Or.inl cS)] at HEX
    have HE : Hid (E = 95) := HEX.out
    clear cS HEX
    go_wp2_with (first | (refine wpList_load_t9 (.tmp 8) rfl O8 t9z none 0 0 none 0 0 rfl HZ1.out rfl ?_) | (refine wpList_store_t9 (.tmp 6) _ rfl rfl O t9z none 0 0 none 0 0 t9z none 0 0 none 0 0 rfl rfl HR1.out rfl ?_))
    intro wE hRE kE
    have HRE : Hid (TAt wE O t9z none 0 0 none 0 0) := hRE
    have HFE : Hid (Below w.heap.size w wE) := bel1.trans (kE.below (fun q e => by have e' : q = O := e; have := HO2.out; omega) bel1.size)
    clear hRE kE
    go_wp2
    (try simp only [Exit.inBlock, Exit.then])
    refine bodyPost_ret (results_t9_tmp rfl _ _ O t9z none 0 0 none 0 0 rfl HRE.out) rfl ?_
    exact ⟨E, t9z, none, 0, 0, [], none, 0, 0, (by rw [HE.out]; rfl), HFE.out, rfl, t_zero _, (fun h => by rw [HE.out] at h; cases h), (fun _ => ⟨rfl, rfl, rfl, rfl, rfl, rfl, rfl, rfl⟩), (fun z hz => by cases hz), (fun o ho => by cases ho)⟩
  by_cases cL : n < hd
  · have cS' : ¬ (hd : Int) < 20 := by omega
    have cL' : (n : Int) < (hd : Int) := by omega
    rw [if_pos (Or.inr cL)] at HEX
    have HE : Hid (E = 95) := HEX.out
    clear cL cS HEX
    go_wp2_with (first | (refine wpList_load_t9 (.tmp 8) rfl O8 t9z none 0 0 none 0 0 rfl HZ1.out rfl ?_) | (refine wpList_store_t9 (.tmp 6) _ rfl rfl O t9z none 0 0 none 0 0 t9z none 0 0 none 0 0 rfl rfl HR1.out rfl ?_))
    intro wE hRE kE
    have HRE : Hid (TAt wE O t9z none 0 0 none 0 0) := hRE
    have HFE : Hid (Below w.heap.size w wE) := bel1.trans (kE.below (fun q e => by have e' : q = O := e; have := HO2.out; omega) bel1.size)
    clear hRE kE
    go_wp2
    (try simp only [Exit.inBlock, Exit.then])
    refine bodyPost_ret (results_t9_tmp rfl _ _ O t9z none 0 0 none 0 0 rfl HRE.out) rfl ?_
    exact ⟨E, t9z, none, 0, 0, [], none, 0, 0, (by rw [HE.out]; rfl), HFE.out, rfl, t_zero _, (fun h => by rw [HE.out] at h; cases h), (fun _ => ⟨rfl, rfl, rfl, rfl, rfl, rfl, rfl, rfl⟩), (fun z hz => by cases hz), (fun o ho => by cases ho)⟩
  have cS' : ¬ (hd : Int) < 20 := by omega
  have cL' : ¬ (n : Int) < (hd : Int) := by omega
  rw [if_neg (by omega)] at HEX
  have s20 : 20 ≤ hd := by omega
  have sN : hd ≤ n := by omega
  clear cS cL
  have QG : Hid _ := HGD.out w1 bel1
  obtain ⟨gd, hgd⟩ : ∃ gd, gd = decide (S.fold (S.wv false (psL V U x y 6 (n : Nat) ++ bs)) = 65535) := ⟨_, rfl⟩
  rw [← hgd] at QG
  have HGG : Hid (gd = decide (S.fold (S.wv false (psL V U x y 6 (n : Nat) ++ bs)) = 65535)) := hgd
  clear hgd HGD
  go_wp2_with (first | (refine wpList_load_ip (.tmp 3) rfl B V x rfl HX1.out rfl ?_) | (refine wpList_load_ip (.tmp 4) rfl (B + 1) U y rfl HY1.out rfl ?_))
  refine Calls.mono QG.out ?_
  rintro e w2 ⟨rfl, hb2⟩
  have bel2 := bthen bel1 hb2
  have HR2 : Hid (TAt w2 O t9z none 0 0 none 0 0) := HR1.out.below hb2
  have HZ2 : Hid (TAt w2 O8 t9z none 0 0 none 0 0) := HZ1.out.below hb2
  have HX2 : Hid (Boxed w2 B V x) := HX1.out.old hb2
  have HY2 : Hid (Boxed w2 (B + 1) U y) := HY1.out.old hb2
  clear HR1 HZ1 HX1 HY1
  have HO6 : Hid (O < w2.heap.size) := HR2.out.lt
  clear QG hb2 bel1
  cases gd with
  | false =>
    have HE : Hid (E = 96) := by
      have h := HEX.out
      rw [if_pos (of_decide_eq_false HGG.out.symm)] at h
      exact h
    clear HEX
    go_wp2_with (first | (refine wpList_load_t9 (.tmp 8) rfl O8 t9z none 0 0 none 0 0 rfl HZ2.out rfl ?_) | (refine wpList_store_t9 (.tmp 6) _ rfl rfl O t9z none 0 0 none 0 0 t9z none 0 0 none 0 0 rfl rfl HR2.out rfl ?_))
    intro wE hRE kE
    have HRE : Hid (TAt wE O t9z none 0 0 none 0 0) := hRE
    have HFE : Hid (Below w.heap.size w wE) := bel2.trans (kE.below (fun q e => by have e' : q = O := e; have := HO2.out; omega) bel2.size)
    clear hRE kE
    go_wp2
    (try simp only [Exit.inBlock, Exit.then])
    refine bodyPost_ret (results_t9_tmp rfl _ _ O t9z none 0 0 none 0 0 rfl HRE.out) rfl ?_
    exact ⟨E, t9z, none, 0, 0, [], none, 0, 0, (by rw [HE.out]; rfl), HFE.out, rfl, t_zero _, (fun h => by rw [HE.out] at h; cases h), (fun _ => ⟨rfl, rfl, rfl, rfl, rfl, rfl, rfl, rfl⟩), (fun z hz => by cases hz), (fun o ho => by cases ho)⟩
  | true =>
  have HEX2 : Hid (E = if L4.readO (L4.tOb bs) = none then 97 else 0) := by
    have h := HEX.out
    rw [if_neg (by have := of_decide_eq_true HGG.out.symm; simp [this])] at h
    exact h
  obtain ⟨ob, hob⟩ : ∃ ob, ob = L4.tOb bs := ⟨_, rfl⟩
  have HOB2 : Hid (ob = L4.tOb bs) := hob
  have hobe : ob = (bs.drop 20).take (hd - 20) := by rw [hob, L4.tOb, HH.out]
  have hobl : ob.length = hd - 20 := by rw [hobe, List.length_take, List.length_drop, HN.out]; omega
  obtain ⟨ad, had⟩ : ∃ ad, (if cap = 20 then some (⟨b, off, none⟩ : Addr) else some ⟨b, off + 20, none⟩) = ad := ⟨_, rfl⟩
  have hsg : Seg .u8 w2 ad (toI ob) := by
    rw [← had, hobe]
    by_cases e : cap = 20
    · left
      rw [show hd - 20 = 0 by omega]
      simp [toI]
    · rw [if_neg e]
      have := (HD.out w2 bel2).seg.part 20 (hd - 20) (by rw [toI_len, HN.out]; omega)
      rw [toI_drop, toI_take] at this
      simpa [Addr.add] using this
  have QT : Hid _ := ropts_any ad (hd - 20) (cap - 20) ob w2 hobl hsg (fun z hz => by rw [hobe] at hz; exact (HD.out w2 bel2).d256 z (List.mem_of_mem_drop (List.mem_of_mem_take hz))) (by omega)
  rw [← hob] at HEX2
  have m0 : (20 : Int) ≤ (hd : Int) := by omega
  have m1 : (hd : Int) ≤ (cap : Int) := by omega
  have m2 : ((hd : Int)).toNat = hd := by omega
  clear HEX hob hobe hobl hsg
  go_wp2_with fail
  try rw [had]
  refine Calls.mono QT.out ?_
  rintro e w6 ⟨hb6, hr⟩
  have bel6 := bthen bel2 hb6
  have HR6 : Hid (TAt w6 O t9z none 0 0 none 0 0) := HR2.out.below hb6
  have HZ6 : Hid (TAt w6 O8 t9z none 0 0 none 0 0) := HZ2.out.below hb6
  have HX6 : Hid (Boxed w6 B V x) := HX2.out.old hb6
  have HY6 : Hid (Boxed w6 (B + 1) U y) := HY2.out.old hb6
  clear HR2 HZ2 HX2 HY2
  rcases hr with ⟨ops, lb, lc, ps, hro, rfl, hpl, hpv, hpo, hpw, hpb⟩ | ⟨hro, rfl⟩
  case inr =>
    have HE : Hid (E = 97) := by show _ = _; rw [HEX2.out, if_pos hro]
    clear QT hb6 hro
    go_wp2_with (first | (refine wpList_load_t9 (.tmp 8) rfl O8 t9z none 0 0 none 0 0 rfl HZ6.out rfl ?_) | (refine wpList_store_t9 (.tmp 6) _ rfl rfl O t9z none 0 0 none 0 0 t9z none 0 0 none 0 0 rfl rfl HR6.out rfl ?_))
    intro wE hRE kE
    have HRE : Hid (TAt wE O t9z none 0 0 none 0 0) := hRE
    have HFE : Hid (Below w.heap.size w wE) := bel6.trans (kE.below (fun q e => by have e' : q = O := e; have := HO2.out; omega) bel6.size)
    clear hRE kE
    go_wp2
    (try simp only [Exit.inBlock, Exit.then])
    refine bodyPost_ret (results_t9_tmp rfl _ _ O t9z none 0 0 none 0 0 rfl HRE.out) rfl ?_
    exact ⟨E, t9z, none, 0, 0, [], none, 0, 0, (by rw [HE.out]; rfl), HFE.out, rfl, t_zero _, (fun h => by rw [HE.out] at h; cases h), (fun _ => ⟨rfl, rfl, rfl, rfl, rfl, rfl, rfl, rfl⟩), (fun z hz => by cases hz), (fun o ho => by cases ho)⟩
  have HE : Hid (E = 0) := by show _ = _; rw [HEX2.out, if_neg (by rw [hro]; simp)]
  obtain ⟨KK, hK⟩ : ∃ KK, KK = ops.length := ⟨_, rfl⟩
  rw [← hK]
  have HLB : Hid ((∀ z, lb = some z → w2.heap.size ≤ z.block) ∧ ∀ p ∈ ps, ∀ z, p.a = some z → w2.heap.size ≤ z.block) := ⟨fun z hz => (hpw.lt z.block (by rw [hz]; rfl)).1, hpb⟩
  have HW6 : Hid (O < w2.heap.size) := HO6.out
  have HLBw : Hid (w.heap.size ≤ w2.heap.size) := bel2.size
  have HPO : Hid (OptsAt w6 lb ps) := hpo
  have HPV : Hid (ps.length = KK ∧ vals ps = (L4.tP bs).os ∧ KK ≤ 1048576) := by
    refine ⟨by rw [hpl, hK], ?_, ?_⟩
    · rw [hpv]
      show _ = ((L4.readO (L4.tOb bs)).getD []).map _
      rw [← HOB2.out, hro]
      rfl
    · rw [hK]
      have h40 : ob.length ≤ 40 := by
        unfold L4.readO at hro
        split at hro
        · cases hro
        · omega
      have hs : I4.scan ob 0 = some ops := by
        unfold L4.readO at hro
        split at hro
        · cases hro
        · split at hro
          · cases hro
          · rename_i l hl
            split at hro
            · simp only [Option.some.injEq] at hro
              rw [← hro]; exact hl
            · cases hro
      have h1 := (I4.scan_in _ 0 ops hs (Nat.zero_le _) (fun z hz => (HD.out w6 bel6).d256 z (by rw [HOB2.out, L4.tOb] at hz; exact List.mem_of_mem_drop (List.mem_of_mem_take hz)))).2
      have h2 := flat_few (ops.map (I4.ov ob))
      rw [List.length_map] at h2
      omega
  have QNsp : Hid (∀ A, Below w.heap.size w A → Calls Tryd.prog 35 #[.slice (some ⟨b, off, none⟩) n cap, .int .i64 0, .int .i64 2] A fun e w' => e = .returned (.int .i64 (L4.tP bs).sp) ∧ A = w') := fun A hA => by
    have := rnum_any (some ⟨b, off, none⟩) n cap 0 2 bs A (HD.out A hA) (by omega) (by omega)
    rw [numB2] at this
    exact this
  have QNdp : Hid (∀ A, Below w.heap.size w A → Calls Tryd.prog 35 #[.slice (some ⟨b, off, none⟩) n cap, .int .i64 2, .int .i64 2] A fun e w' => e = .returned (.int .i64 (L4.tP bs).dp) ∧ A = w') := fun A hA => by
    have := rnum_any (some ⟨b, off, none⟩) n cap 2 2 bs A (HD.out A hA) (by omega) (by omega)
    rw [numB2] at this
    exact this
  have QNsq : Hid (∀ A, Below w.heap.size w A → Calls Tryd.prog 35 #[.slice (some ⟨b, off, none⟩) n cap, .int .i64 4, .int .i64 4] A fun e w' => e = .returned (.int .i64 (L4.tP bs).sq) ∧ A = w') := fun A hA => by
    have := rnum_any (some ⟨b, off, none⟩) n cap 4 4 bs A (HD.out A hA) (by omega) (by omega)
    rw [numB4] at this
    exact this
  have QNak : Hid (∀ A, Below w.heap.size w A → Calls Tryd.prog 35 #[.slice (some ⟨b, off, none⟩) n cap, .int .i64 8, .int .i64 4] A fun e w' => e = .returned (.int .i64 (L4.tP bs).ak) ∧ A = w') := fun A hA => by
    have := rnum_any (some ⟨b, off, none⟩) n cap 8 4 bs A (HD.out A hA) (by omega) (by omega)
    rw [numB4] at this
    exact this
  have QNwi : Hid (∀ A, Below w.heap.size w A → Calls Tryd.prog 35 #[.slice (some ⟨b, off, none⟩) n cap, .int .i64 14, .int .i64 2] A fun e w' => e = .returned (.int .i64 (L4.tP bs).wi) ∧ A = w') := fun A hA => by
    have := rnum_any (some ⟨b, off, none⟩) n cap 14 2 bs A (HD.out A hA) (by omega) (by omega)
    rw [numB2] at this
    exact this
  have QNur : Hid (∀ A, Below w.heap.size w A → Calls Tryd.prog 35 #[.slice (some ⟨b, off, none⟩) n cap, .int .i64 18, .int .i64 2] A fun e w' => e = .returned (.int .i64 (L4.tP bs).ur) ∧ A = w') := fun A hA => by
    have := rnum_any (some ⟨b, off, none⟩) n cap 18 2 bs A (HD.out A hA) (by omega) (by omega)
    rw [numB2] at this
    exact this
  obtain ⟨m, hm⟩ : ∃ m, m = n - hd := ⟨_, rfl⟩
  obtain ⟨ad2, had2⟩ : ∃ ad2, (if cap = hd then some (⟨b, off, none⟩ : Addr) else some ⟨b, off + hd, none⟩) = ad2 := ⟨_, rfl⟩
  have QCP : Hid (∀ A, Below w.heap.size w A → Calls Tryd.prog 5 #[.slice ad2 m (cap - hd)] A fun e w' => ∃ v, e = .returned v ∧ w'.ownsRow A.heap.size 5 1 v m ((toI (bs.drop hd)).map (Value.int .u8)) ∧ Below A.heap.size A w') := by
    intro A hA
    refine copied_any ad2 m (cap - hd) (bs.drop hd) A (by rw [List.length_drop, HN.out, hm]) ?_ (by omega)
    rw [← had2]
    by_cases e : cap = hd
    · left
      have : bs.drop hd = [] := List.drop_eq_nil_of_le (by rw [HN.out]; omega)
      rw [this]; rfl
    · rw [if_neg e]
      have := (HD.out A hA).seg.part hd (n - hd) (by rw [toI_len, HN.out]; omega)
      rw [toI_drop, toI_take, List.take_of_length_le (by rw [List.length_drop, HN.out]; omega)] at this
      simpa [Addr.add, show hd ≠ 0 by omega] using this
  have HMM : Hid (m = n - hd) := hm
  have x13 := HX13.out
  have q0 : ((0 : Int) != 0) = false := rfl
  have r1 : (hd : Int) ≤ (n : Int) := by omega
  have r0 : (0 : Int) ≤ (hd : Int) := by omega
  have r3 : n - hd = m := hm.symm
  clear QT hb6 hro hpl hpv hpo hpw hpb hK HEX2 had hm
  go_upto_region 18 with fail
  refine MixH.start (fun A => Below w.heap.size w A) (by kernel_rfl) ?_
  obtain ⟨wA, hwA⟩ : ∃ wA, wA = w6.drew := ⟨_, rfl⟩
  have bdr : Below w6.heap.size w6 wA := by rw [hwA]; exact (Below.refl _ _).drew
  have hS : Below w.heap.size w wA := bthen bel6 bdr
  have HRA : Hid (TAt wA O t9z none 0 0 none 0 0) := HR6.out.below bdr
  have HPA : Hid (OptsAt wA lb ps) := HPO.out.old bdr
  have HOLT : Hid (O < wA.heap.size) := HRA.out.lt
  rw [← hwA]
  clear hwA bdr HR6 HPO HZ6 HX6 HY6
  refine MixH.takes [true, false, true, false, true, false, true, false, true, true, false, false, true, false, true, false, true, true, true, true] 12 (by kernel_rfl) (by kernel_rfl) (by decide) (by kernel_rfl) hS (fun K hK => ?_)
  simp only [Mix.pick]
  repeat (go_big_quiet_step (fail))
  refine wpQuiet_nil (hK _ ?_)
  clear hK K
  refine MixH.take 11 10 _ (.int .u8 ((bs.getD 13 0 : Nat) : Int)) rfl (by kernel_rfl) (by kernel_rfl) (by kernel_rfl) (by kernel_rfl) (yields_u8 (.tmp 70) rfl ⟨b, off + 13, none⟩ _ rfl rfl (fun A hA => (HC.out A hA 13 (by omega)))) hS (fun a' ha => ?_)
  simp only [Act.put, List.setIfInBounds_toArray, List.set_cons_succ, List.set_cons_zero] at ha
  subst ha
  refine MixH.takes [false, false, false, false, false, false, false, false, false, false, false, true] 10 (by kernel_rfl) (by kernel_rfl) (by decide) (by kernel_rfl) hS (fun K hK => ?_)
  simp only [Mix.pick]
  repeat (go_big_quiet_step (fail))
  refine wpQuiet_nil (hK _ ?_)
  clear hK K
  refine MixH.one [false, true] 9 1 _ rfl rfl (by kernel_rfl) (by kernel_rfl) (fun K hK => ?_)
  simp only [Mix.pick]
  go_wp2_with fail
  refine Calls.mono (QNsp.out wA hS) ?_
  rintro ex wn ⟨rfl, rfl⟩
  go_wp2
  refine ⟨rfl, hK _ _ hS ?_⟩
  clear hK K
  refine MixH.one [false, false, false, true] 8 3 _ rfl rfl (by kernel_rfl) (by kernel_rfl) (fun K hK => ?_)
  simp only [Mix.pick]
  go_wp2_with fail
  refine Calls.mono (QNdp.out wA hS) ?_
  rintro ex wn ⟨rfl, rfl⟩
  go_wp2
  refine ⟨rfl, hK _ _ hS ?_⟩
  clear hK K
  refine MixH.one [false, false, false, false, false, true] 7 5 _ rfl rfl (by kernel_rfl) (by kernel_rfl) (fun K hK => ?_)
  simp only [Mix.pick]
  go_wp2_with fail
  refine Calls.mono (QNsq.out wA hS) ?_
  rintro ex wn ⟨rfl, rfl⟩
  go_wp2
  refine ⟨rfl, hK _ _ hS ?_⟩
  clear hK K
  refine MixH.one [false, false, false, false, false, false, false, true] 6 7 _ rfl rfl (by kernel_rfl) (by kernel_rfl) (fun K hK => ?_)
  simp only [Mix.pick]
  go_wp2_with fail
  refine Calls.mono (QNak.out wA hS) ?_
  rintro ex wn ⟨rfl, rfl⟩
  go_wp2
  refine ⟨rfl, hK _ _ hS ?_⟩
  clear hK K
  refine MixH.one [false, false, false, false, false, false, false, false, false, false, false, false, false, true] 5 13 _ rfl rfl (by kernel_rfl) (by kernel_rfl) (fun K hK => ?_)
  simp only [Mix.pick]
  go_wp2_with fail
  refine Calls.mono (QNwi.out wA hS) ?_
  rintro ex wn ⟨rfl, rfl⟩
  go_wp2
  refine ⟨rfl, hK _ _ hS ?_⟩
  clear hK K
  refine MixH.one [false, false, false, false, false, false, false, false, false, false, false, false, false, false, false, true] 4 15 _ rfl rfl (by kernel_rfl) (by kernel_rfl) (fun K hK => ?_)
  simp only [Mix.pick]
  go_wp2_with fail
  refine Calls.mono (QNur.out wA hS) ?_
  rintro ex wn ⟨rfl, rfl⟩
  go_wp2
  refine ⟨rfl, hK _ _ hS ?_⟩
  clear hK K
  refine MixH.one [false, false, false, false, false, false, false, false, false, false, false, false, false, false, false, false, false, false, false, false, true] 3 20 _ rfl rfl (by kernel_rfl) (by kernel_rfl) (fun K hK => ?_)
  simp only [Mix.pick]
  try rw [had2]
  go_wp2_with fail
  refine Calls.mono (QCP.out wA hS) ?_
  rintro ex wB ⟨vv, rfl, hoB, hbB⟩
  obtain ⟨va, vc, hvv⟩ := owns_shape hoB
  subst hvv
  have HRB : Hid (TAt wB O t9z none 0 0 none 0 0) := HRA.out.below hbB
  have HOB : Hid (wB.ownsRow wA.heap.size 5 1 (.slice va m vc) m ((toI (bs.drop hd)).map (Value.int .u8))) := hoB
  have HPB : Hid (OptsAt wB lb ps) := HPA.out.old hbB
  have HSZ : Hid (wA.heap.size ≤ wB.heap.size) := hbB.size
  replace hS : Below w.heap.size w wB := bthen hS hbB
  clear hoB hbB HRA HPA
  go_wp2
  refine ⟨rfl, hK _ _ hS ?_⟩
  clear hK K
  refine MixH.takes [false, false, false, false, false, false, false, false, false, false, false, false, false, false, false, false, false, false, false, false, false, true] 2 (by kernel_rfl) (by kernel_rfl) (by decide) (by kernel_rfl) hS (fun K hK => ?_)
  simp only [Mix.pick]
  repeat (go_big_quiet_step (fail))
  refine wpQuiet_nil (hK _ ?_)
  clear hK K
  refine MixH.one [false, false, false, false, false, false, false, false, false, false, false, false, false, false, false, false, false, false, false, false, false, false, true] 1 22 _ rfl rfl (by kernel_rfl) (by kernel_rfl) (fun K hK => ?_)
  simp only [Mix.pick]
  have hn8 := HRB.out
  refine wpList_store_t9 (.tmp 6) (.tmp 82) rfl rfl O t9z none 0 0 none 0 0 (L4.tP bs) lb KK lc va m vc rfl ?hy82 hn8 rfl ?_
  case hy82 =>
    have w13 : wrap64 ((bs.getD 13 0 : Nat) : Int) = ((bs.getD 13 0 : Nat) : Int) := by unfold wrap64; have := HX13.out; omega
    simp only [List.getD_eq_getElem?_getD] at w13
    simp [Act.eval, tC, L4.tP, w13]
  intro wE hRE kE
  have HRE : Hid (TAt wE O (L4.tP bs) lb KK lc va m vc) := hRE
  have HFE : Hid (Below w.heap.size w wE) := hS.trans (kE.below (fun q e => by have e' : q = O := e; have := HO2.out; omega) hS.size)
  have HOE : Hid (wE.ownsRow wA.heap.size 5 1 (.slice va m vc) m ((toI (bs.drop hd)).map (Value.int .u8))) := kE.owns HOB.out (fun g hg e => by
    have e' : g = O := e
    have h1 := (HOB.out.lt g hg).1
    have h2 := HOLT.out
    omega)
  have HPE : Hid (OptsAt wE lb ps) := HPB.out.ch kE (fun z hz e => by have e' : z.block = O := e; have := HLB.out.1 z hz; have := HO2.out; have := HW6.out; omega) (fun q hq z hz e => by have e' : z.block = O := e; have := HLB.out.2 q hq z hz; have := HO2.out; have := HW6.out; omega)
  replace hS : Below w.heap.size w wE := HFE.out
  clear hRE kE hn8 HRB HOB HPB
  go_wp2
  refine ⟨rfl, hK _ _ hS ?_⟩
  clear hK K
  refine MixH.takes [false, false, false, false, false, false, false, false, false, false, false, false, false, false, false, false, false, false, false, false, false, false, false, true] 0 (by kernel_rfl) (by kernel_rfl) (by decide) (by kernel_rfl) hS (fun K hK => ?_)
  simp only [Mix.pick]
  repeat (go_big_quiet_step (fail))
  refine wpQuiet_nil (hK _ ?_)
  clear hK K
  refine MixH.done (by kernel_rfl) ?_
  clear hS
  go_wp2
  (try simp only [Exit.inBlock, Exit.then])
  refine bodyPost_ret (results_t9_tmp rfl _ _ O (L4.tP bs) lb KK lc va m vc rfl HRE.out) rfl ?_
  refine ⟨E, L4.tP bs, lb, KK, lc, ps, va, m, vc, (by rw [HE.out]; rfl), HFE.out, rfl, ⟨HPV.out.2.1, HPV.out.1, HPE.out, by have := HPV.out.2.2; omega, ?_⟩, fun _ => rfl, (fun h => absurd HE.out h), (fun z hz => Nat.le_trans HLBw.out (HLB.out.1 z hz)), (fun q hq z hz => Nat.le_trans HLBw.out (HLB.out.2 q hq z hz))⟩
  have e : (L4.tP bs).d = bs.drop hd := by show bs.drop (L4.tH bs) = _; rw [HH.out]
  rw [e]
  exact own_dok HOE.out (fun z hz => (HD.out w (Below.refl _ _)).d256 z (List.mem_of_mem_drop hz)) (by have := HMM.out; omega)
theorem rparseT_any (V U : Int) (x y : Nat → Nat) (a : Option Addr) (n cap : Nat) (bs : List Nat) (w : World) (hd : DOk w bs a n cap) (hx : ∀ i, i < 16 → x i < 256) (hy : ∀ i, i < 16 → y i < 256) :
    Calls Tryd.prog 10 #[.agg (ipCells V x), .agg (ipCells U y), .slice a n cap] w fun e w' => ∃ (er : Nat) (t : T9) (la : Option Addr) (ln lc : Nat) (os : List OpV) (da : Option Addr) (m mc : Nat), e = .returned (.tuple #[.agg (tC t la ln lc da m mc), .int .i64 (er : Nat)]) ∧ Below w.heap.size w w' ∧ er = L4.tPE (psOk V U x y) (psL V U x y 6 (n : Nat)) bs ∧ TOk w' t la ln os da m mc ∧ (er = 0 → t = L4.tP bs) ∧ (er ≠ 0 → t = t9z ∧ la = none ∧ ln = 0 ∧ lc = 0 ∧ os = [] ∧ da = none ∧ m = 0 ∧ mc = 0) := by
  refine (rparseT_full V U x y a n cap bs w hd hx hy).mono ?_
  rintro e w' ⟨er, t, la, ln, lc, os, da, m, mc, h1, h2, h3, h4, h5, h6, _, _⟩
  exact ⟨er, t, la, ln, lc, os, da, m, mc, h1, h2, h3, h4, h5, h6⟩
end Go.Proofs.YtfoeepbndfnifaaDoor
namespace Go.Proofs.YtfoeepbndfnifaaDoor
open Go.RowKit
open L4 (U9 T9)
set_option maxHeartbeats 12800000 in
set_option maxRecDepth 100000 in
theorem rparseU_any (V U : Int) (x y : Nat → Nat) (a : Option Addr) (n cap : Nat) (bs : List Nat) (w : World) (hd : DOk w bs a n cap) (hx : ∀ i, i < 16 → x i < 256) (hy : ∀ i, i < 16 → y i < 256) :
    Calls Tryd.prog 8 #[.agg (ipCells V x), .agg (ipCells U y), .slice a n cap] w fun e w' => ∃ (er : Nat) (u : U9) (da : Option Addr) (m mc : Nat), e = .returned (.tuple #[.agg (uC u da m mc), .int .i64 (er : Nat)]) ∧ Below w.heap.size w w' ∧ er = L4.uPE V (psOk V U x y) (psL V U x y 17 (L4.uN bs : Nat)) bs ∧ DOk w' u.d da m mc ∧ (er = 0 → u = L4.uP bs) ∧ (er ≠ 0 → u = u9z ∧ da = none ∧ m = 0 ∧ mc = 0) := by
  obtain ⟨A, hA⟩ : ∃ A, A = ipCells V x := ⟨_, rfl⟩
  obtain ⟨C, hC⟩ : ∃ C, C = ipCells U y := ⟨_, rfl⟩
  have hx1 := boxed_new w V x 24
  have hy1 := boxed_new (w.alloc (.cells (ipCells V x) 24)) U y 24
  rw [World.size_alloc] at hy1
  have hx2 := hx1.old ((Below.refl _ _).alloc (Nat.le_refl _) (.cells (ipCells U y) 24))
  clear hx1
  rw [← hA] at hx2 hy1 ⊢
  rw [← hC] at hx2 hy1 ⊢
  have s2 : ((w.alloc (.cells A 24)).alloc (.cells C 24)).heap.size = w.heap.size + 1 + 1 := by simp
  have hr := uAt_new ((w.alloc (.cells A 24)).alloc (.cells C 24)) u9z none 0 0
  rw [s2] at hr
  have b3 : Below ((w.alloc (.cells A 24)).alloc (.cells C 24)).heap.size ((w.alloc (.cells A 24)).alloc (.cells C 24)) (((w.alloc (.cells A 24)).alloc (.cells C 24)).alloc (.cells (uC u9z none 0 0) 37)) := (Below.refl _ _).alloc (Nat.le_refl _) _
  have hx3 := hx2.old b3
  have hy3 := hy1.old b3
  have bel : Below w.heap.size w (((w.alloc (.cells A 24)).alloc (.cells C 24)).alloc (.cells (uC u9z none 0 0) 37)) := (((Below.refl _ _).alloc (Nat.le_refl _) _).alloc (by simp) _).alloc (by simp; omega) _
  clear hx2 hy1 b3 s2
  obtain ⟨W, hW⟩ : ∃ W, W = ((w.alloc (.cells A 24)).alloc (.cells C 24)).alloc (.cells #[.int .i64 0, .int .i64 0, .bool false, .slice none 0 0] 37) := ⟨_, rfl⟩
  have hW2 : W = ((w.alloc (.cells A 24)).alloc (.cells C 24)).alloc (.cells (uC u9z none 0 0) 37) := hW
  rw [← hW2] at hr hx3 hy3 bel
  obtain ⟨B, hB⟩ : ∃ B, B = w.heap.size := ⟨_, rfl⟩
  have HB : Hid (w.heap.size = B) := hB.symm
  rw [← hB] at hr hx3 hy3
  obtain ⟨O, hO⟩ : ∃ O, O = B + 1 + 1 := ⟨_, rfl⟩
  rw [← hO] at hr
  have HW : Hid (((w.alloc (.cells A 24)).alloc (.cells C 24)).alloc (.cells #[.int .i64 0, .int .i64 0, .bool false, .slice none 0 0] 37) = W) := hW.symm
  have HO : Hid (B + 1 + 1 = O) := hO.symm
  have HO2 : Hid (w.heap.size + 2 = O) := by show _ = _; rw [hO, hB]
  have HR : Hid (UAt W O u9z none 0 0) := hr
  have HX : Hid (∀ i, i < 16 → x i < 256) := hx
  have HY : Hid (∀ i, i < 16 → y i < 256) := hy
  have HXB : Hid (Boxed W B V x) := hx3
  have HYB : Hid (Boxed W (B + 1) U y) := hy3
  clear hB hW hW2 hr hx3 hy3 hO hx hy hA hC
  have HD : Hid (∀ A, Below w.heap.size w A → DOk A bs a n cap) := fun A hA => hd.old hA
  have HN : Hid (bs.length = n) := hd.dl
  have h2 := hd.cap
  have h3 := hd.top
  obtain ⟨E, hE⟩ : ∃ E, E = L4.uPE V (psOk V U x y) (psL V U x y 17 (L4.uN bs : Nat)) bs := ⟨_, rfl⟩
  rw [← hE]
  have HEX : Hid _ := hE
  unfold L4.uPE at HEX
  rw [hd.dl] at HEX
  obtain ⟨W8, hW8⟩ : ∃ W8, W8 = W.alloc (.cells #[.int .i64 0, .int .i64 0, .bool false, .slice none 0 0] 37) := ⟨_, rfl⟩
  have hb8 : Below W.heap.size W W8 := by rw [hW8]; exact (Below.refl _ _).alloc (Nat.le_refl _) _
  obtain ⟨O8, hO8⟩ : ∃ O8, O8 = W.heap.size := ⟨_, rfl⟩
  have HZ0 : Hid (UAt W8 O8 u9z none 0 0) := by rw [hW8, hO8]; exact uAt_new W u9z none 0 0
  have HR0 : Hid (UAt W8 O u9z none 0 0) := HR.out.below hb8
  have HX0 : Hid (Boxed W8 B V x) := HXB.out.old hb8
  have HY0 : Hid (Boxed W8 (B + 1) U y) := HYB.out.old hb8
  have bel0 := bthen bel hb8
  have HW8 : Hid (W.alloc (.cells #[.int .i64 0, .int .i64 0, .bool false, .slice none 0 0] 37) = W8 ∧ W.heap.size = O8) := ⟨hW8.symm, hO8.symm⟩
  have QF : Hid _ := rfit_any V U x y W8
  have HG : Hid (psOk V U x y = true → L4.uN bs ≤ n → n ≤ 65535 → ∀ A, Below w.heap.size w A → Calls Tryd.prog 36 #[.agg (ipCells V x), .agg (ipCells U y), .int .i64 17, .slice a (L4.uN bs) cap] A fun e w' => e = .returned (.bool (decide (S.fold (S.wv false (psL V U x y 17 (L4.uN bs : Nat) ++ bs.take (L4.uN bs))) = 65535))) ∧ Below A.heap.size A w') := fun hok h1 h2 A hA => rgood9_any V U x y 17 a (L4.uN bs) cap (bs.take (L4.uN bs)) A hok (by omega) (by omega) HX.out HY.out ((hd.old hA).pre (L4.uN bs) h1)
  obtain ⟨ok, hok⟩ : ∃ ok, ok = psOk V U x y := ⟨_, rfl⟩
  rw [← hok] at QF HEX HG
  clear hok hE hd HR HXB HYB hW8 hO8 hb8 bel
  go_enter Tryd.func8, Tryd.ntmps8
  go_upto_region 1 with fail
  rw [HB.out, HO.out, HW.out]
  go_upto_region 2 with fail
  rw [HW8.out.2, HW8.out.1]
  clear HW8 HW HB HO
  by_cases c1 : 65535 < n
  · have c1' : (65535 : Int) < (n : Int) := by omega
    rw [if_pos c1] at HEX
    have HE : Hid (E = 2) := HEX.out
    clear c1 HEX
    go_wp2_with (first | (refine wpList_load_u9 (.tmp 8) rfl O8 u9z none 0 0 rfl HZ0.out rfl ?_) | (refine wpList_store_u9 (.tmp 6) _ rfl rfl O u9z none 0 0 u9z none 0 0 rfl rfl HR0.out rfl ?_))
    intro wE hRE kE
    have HRE : Hid (UAt wE O u9z none 0 0) := hRE
    have HFE : Hid (Below w.heap.size w wE) := bel0.trans (kE.below (fun q e => by have e' : q = O := e; have := HO2.out; omega) bel0.size)
    clear hRE kE
    go_wp2
    (try simp only [Exit.inBlock, Exit.then])
    refine bodyPost_ret (results_u9_tmp rfl _ _ O u9z none 0 0 rfl HRE.out) rfl ?_
    exact ⟨E, u9z, none, 0, 0, (by rw [HE.out]; rfl), HFE.out, rfl, d_zero _, (fun h => by rw [HE.out] at h; cases h), fun _ => ⟨rfl, rfl, rfl, rfl⟩⟩
  rw [if_neg c1] at HEX
  have c1' : ¬ (65535 : Int) < (n : Int) := by omega
  have c1b : n ≤ 65535 := by omega
  clear c1
  go_wp2_with (first | (refine wpList_load_ip (.tmp 3) rfl B V x rfl HX0.out rfl ?_) | (refine wpList_load_ip (.tmp 4) rfl (B + 1) U y rfl HY0.out rfl ?_))
  refine Calls.mono QF.out ?_
  rintro e w1 ⟨rfl, hb1⟩
  have bel1 := bthen bel0 hb1
  have HR1 : Hid (UAt w1 O u9z none 0 0) := HR0.out.below hb1
  have HZ1 : Hid (UAt w1 O8 u9z none 0 0) := HZ0.out.below hb1
  have HX1 : Hid (Boxed w1 B V x) := HX0.out.old hb1
  have HY1 : Hid (Boxed w1 (B + 1) U y) := HY0.out.old hb1
  clear HR0 HZ0 HX0 HY0
  clear QF hb1 bel0
  cases ok with
  | false =>
    have HE : Hid (E = 20) := HEX.out
    clear HEX
    go_wp2_with (first | (refine wpList_load_u9 (.tmp 8) rfl O8 u9z none 0 0 rfl HZ1.out rfl ?_) | (refine wpList_store_u9 (.tmp 6) _ rfl rfl O u9z none 0 0 u9z none 0 0 rfl rfl HR1.out rfl ?_))
    intro wE hRE kE
    have HRE : Hid (UAt wE O u9z none 0 0) := hRE
    have HFE : Hid (Below w.heap.size w wE) := bel1.trans (kE.below (fun q e => by have e' : q = O := e; have := HO2.out; omega) bel1.size)
    clear hRE kE
    go_wp2
    (try simp only [Exit.inBlock, Exit.then])
    refine bodyPost_ret (results_u9_tmp rfl _ _ O u9z none 0 0 rfl HRE.out) rfl ?_
    exact ⟨E, u9z, none, 0, 0, (by rw [HE.out]; rfl), HFE.out, rfl, d_zero _, (fun h => by rw [HE.out] at h; cases h), fun _ => ⟨rfl, rfl, rfl, rfl⟩⟩
  | true =>
  rw [if_pos rfl] at HEX
  by_cases c2 : n < 8
  · have c2' : (n : Int) < 8 := by omega
    rw [if_pos c2] at HEX
    have HE : Hid (E = 91) := HEX.out
    clear c2 HEX
    go_wp2_with (first | (refine wpList_load_u9 (.tmp 8) rfl O8 u9z none 0 0 rfl HZ1.out rfl ?_) | (refine wpList_store_u9 (.tmp 6) _ rfl rfl O u9z none 0 0 u9z none 0 0 rfl rfl HR1.out rfl ?_))
    intro wE hRE kE
    have HRE : Hid (UAt wE O u9z none 0 0) := hRE
    have HFE : Hid (Below w.heap.size w wE) := bel1.trans (kE.below (fun q e => by have e' : q = O := e; have := HO2.out; omega) bel1.size)
    clear hRE kE
    go_wp2
    (try simp only [Exit.inBlock, Exit.then])
    refine bodyPost_ret (results_u9_tmp rfl _ _ O u9z none 0 0 rfl HRE.out) rfl ?_
    exact ⟨E, u9z, none, 0, 0, (by rw [HE.out]; rfl), HFE.out, rfl, d_zero _, (fun h => by rw [HE.out] at h; cases h), fun _ => ⟨rfl, rfl, rfl, rfl⟩⟩
  rw [if_neg c2] at HEX
  have c2' : ¬ (n : Int) < 8 := by omega
  have c8 : 8 ≤ n := by omega
  clear c2
  obtain ⟨b, off, rfl, hc⟩ := seg_at (HD.out w1 bel1).seg 0 (by rw [HN.out]; omega)
  clear hc
  obtain ⟨un, hun⟩ : ∃ un, un = L4.uN bs := ⟨_, rfl⟩
  have HUN : Hid (L4.uN bs = un) := hun.symm
  rw [← hun] at HEX HG
  have QN4 : Hid (Calls Tryd.prog 35 #[.slice (some ⟨b, off, none⟩) n cap, .int .i64 4, .int .i64 2] w1 fun e w' => e = .returned (.int .i64 (un : Int)) ∧ w1 = w') := by
    have := rnum_any (some ⟨b, off, none⟩) n cap 4 2 bs w1 (HD.out w1 bel1) (by omega) (by omega)
    rw [numB2] at this
    rw [hun]
    exact this
  clear hun
  go_wp2_with fail
  refine Calls.mono QN4.out ?_
  rintro e wn ⟨rfl, rfl⟩
  clear QN4
  by_cases cS : un < 8
  · have cS' : (un : Int) < 8 := by omega
    rw [if_pos (Or.inl cS)] at HEX
    have HE : Hid (E = 92) := HEX.out
    clear cS HEX
    go_wp2_with (first | (refine wpList_load_u9 (.tmp 8) rfl O8 u9z none 0 0 rfl HZ1.out rfl ?_) | (refine wpList_store_u9 (.tmp 6) _ rfl rfl O u9z none 0 0 u9z none 0 0 rfl rfl HR1.out rfl ?_))
    intro wE hRE kE
    have HRE : Hid (UAt wE O u9z none 0 0) := hRE
    have HFE : Hid (Below w.heap.size w wE) := bel1.trans (kE.below (fun q e => by have e' : q = O := e; have := HO2.out; omega) bel1.size)
    clear hRE kE
    go_wp2
    (try simp only [Exit.inBlock, Exit.then])
    refine bodyPost_ret (results_u9_tmp rfl _ _ O u9z none 0 0 rfl HRE.out) rfl ?_
    exact ⟨E, u9z, none, 0, 0, (by rw [HE.out]; rfl), HFE.out, rfl, d_zero _, (fun h => by rw [HE.out] at h; cases h), fun _ => ⟨rfl, rfl, rfl, rfl⟩⟩
  by_cases cL : n < un
  · have cS' : ¬ (un : Int) < 8 := by omega
    have cL' : (n : Int) < (un : Int) := by omega
    rw [if_pos (Or.inr cL)] at HEX
    have HE : Hid (E = 92) := HEX.out
    clear cL cS HEX
    go_wp2_with (first | (refine wpList_load_u9 (.tmp 8) rfl O8 u9z none 0 0 rfl HZ1.out rfl ?_) | (refine wpList_store_u9 (.tmp 6) _ rfl rfl O u9z none 0 0 u9z none 0 0 rfl rfl HR1.out rfl ?_))
    intro wE hRE kE
    have HRE : Hid (UAt wE O u9z none 0 0) := hRE
    have HFE : Hid (Below w.heap.size w wE) := bel1.trans (kE.below (fun q e => by have e' : q = O := e; have := HO2.out; omega) bel1.size)
    clear hRE kE
    go_wp2
    (try simp only [Exit.inBlock, Exit.then])
    refine bodyPost_ret (results_u9_tmp rfl _ _ O u9z none 0 0 rfl HRE.out) rfl ?_
    exact ⟨E, u9z, none, 0, 0, (by rw [HE.out]; rfl), HFE.out, rfl, d_zero _, (fun h => by rw [HE.out] at h; cases h), fun _ => ⟨rfl, rfl, rfl, rfl⟩⟩
  have cS' : ¬ (un : Int) < 8 := by omega
  have cL' : ¬ (n : Int) < (un : Int) := by omega
  rw [if_neg (by omega)] at HEX
  have s8 : 8 ≤ un := by omega
  have sN : un ≤ n := by omega
  clear cS cL
  have QG : Hid _ := HG.out (by first | rfl | trivial) sN c1b
  obtain ⟨m, hm⟩ : ∃ m, m = un - 8 := ⟨_, rfl⟩
  have HMM : Hid (m = un - 8) := hm
  obtain ⟨us, hus⟩ : ∃ us, us = L4.uS bs := ⟨_, rfl⟩
  have HUS : Hid (L4.uS bs = us) := hus.symm
  rw [← hus] at HEX
  have QNsp : Hid (∀ A, Below w.heap.size w A → Calls Tryd.prog 35 #[.slice (some ⟨b, off, none⟩) n cap, .int .i64 0, .int .i64 2] A fun e w' => e = .returned (.int .i64 (L4.uP bs).sp) ∧ A = w') := fun A hA => by
    have := rnum_any (some ⟨b, off, none⟩) n cap 0 2 bs A (HD.out A hA) (by omega) (by omega)
    rw [numB2] at this
    exact this
  have QNdp : Hid (∀ A, Below w.heap.size w A → Calls Tryd.prog 35 #[.slice (some ⟨b, off, none⟩) n cap, .int .i64 2, .int .i64 2] A fun e w' => e = .returned (.int .i64 (L4.uP bs).dp) ∧ A = w') := fun A hA => by
    have := rnum_any (some ⟨b, off, none⟩) n cap 2 2 bs A (HD.out A hA) (by omega) (by omega)
    rw [numB2] at this
    exact this
  have QNns : Hid (∀ A, Below w.heap.size w A → Calls Tryd.prog 35 #[.slice (some ⟨b, off, none⟩) n cap, .int .i64 6, .int .i64 2] A fun e w' => e = .returned (.int .i64 (us : Int)) ∧ A = w') := fun A hA => by
    have := rnum_any (some ⟨b, off, none⟩) n cap 6 2 bs A (HD.out A hA) (by omega) (by omega)
    rw [numB2] at this
    rw [hus]
    exact this
  obtain ⟨ns, hns⟩ : ∃ ns, ns = (L4.uP bs).ns := ⟨_, rfl⟩
  have q6 : ((us : Int) == 0) = (L4.uP bs).ns := by
    rw [hus]
    show _ = decide (L4.uS bs = 0)
    rw [Bool.eq_iff_iff]
    simp
  obtain ⟨ad, had⟩ : ∃ ad, (if cap = 8 then some (⟨b, off, none⟩ : Addr) else some ⟨b, off + 8, none⟩) = ad := ⟨_, rfl⟩
  have QCP : Hid (∀ A, Below w.heap.size w A → Calls Tryd.prog 5 #[.slice ad m (cap - 8)] A fun e w' => ∃ v, e = .returned v ∧ w'.ownsRow A.heap.size 5 1 v m ((toI (L4.uP bs).d).map (Value.int .u8)) ∧ Below A.heap.size A w') := by
    intro A hA
    have ed : (L4.uP bs).d = (bs.drop 8).take m := by show (bs.drop 8).take (L4.uN bs - 8) = _; rw [HUN.out, hm]
    refine copied_any ad m (cap - 8) (L4.uP bs).d A (by rw [ed, List.length_take, List.length_drop, HN.out]; omega) ?_ (by omega)
    rw [← had, ed]
    by_cases e : cap = 8
    · left
      rw [show m = 0 by omega]
      rfl
    · rw [if_neg e]
      have := (HD.out A hA).seg.part 8 m (by rw [toI_len, HN.out]; omega)
      rw [toI_drop, toI_take] at this
      simpa [Addr.add] using this
  have HOLT : Hid (O < w1.heap.size) := HR1.out.lt
  have m0 : (8 : Int) ≤ (un : Int) := by omega
  have m1 : (un : Int) ≤ (cap : Int) := by omega
  have m2 : ((un : Int)).toNat = un := by omega
  have m3 : un - 8 = m := hm.symm
  clear hm hus hns HG
  go_upto_region 12 with fail
  go_cut [11] (fun px wx => ∃ Q, px = .pointer (some ⟨Q, 0, none⟩) ∧ Hid (Below w1.heap.size w1 wx ∧ ∃ va vc, UAt wx Q (L4.uP bs) va m vc ∧ wx.ownsRow w1.heap.size 5 1 (.slice va m vc) m ((toI (L4.uP bs).d).map (Value.int .u8))))
  case first =>
    refine MixH.start (fun A => Below w.heap.size w A) (by kernel_rfl) ?_
    obtain ⟨wA, hwA⟩ : ∃ wA, wA = w1.drew := ⟨_, rfl⟩
    have bdr : Below w1.heap.size w1 wA := by rw [hwA]; exact (Below.refl _ _).drew
    have hS : Below w.heap.size w wA := bthen bel1 bdr
    have B_wA : Hid (Below w1.heap.size w1 wA) := bdr
    rw [← hwA]
    clear hwA bdr
    refine MixH.takes [true, false, true, false, true, false, false, true, true, true] 8 (by kernel_rfl) (by kernel_rfl) (by decide) (by kernel_rfl) hS (fun K hK => ?_)
    simp only [Mix.pick]
    repeat (go_big_quiet_step (fail))
    refine wpQuiet_nil (hK _ ?_)
    clear hK K
    refine MixH.pair [false, true] [false, false, false, false, false, false, false, false, false, false, false, false, true] 7 1 12 _ _ rfl rfl rfl rfl (by kernel_rfl) (by kernel_rfl) (fun K hK => ?_) (fun K hK => ?_)
    · simp only [Mix.pick]
      go_wp2_with fail
      refine Calls.mono (QNsp.out wA hS) ?_
      rintro ex wn ⟨rfl, rfl⟩
      go_wp2
      refine ⟨rfl, hK _ _ hS ?_⟩
      clear hK K
      refine MixH.pair [false, false, false, true] [false, false, false, false, false, false, false, false, false, false, false, false, true] 6 3 12 _ _ rfl rfl rfl rfl (by kernel_rfl) (by kernel_rfl) (fun K hK => ?_) (fun K hK => ?_)
      · simp only [Mix.pick]
        go_wp2_with fail
        refine Calls.mono (QNdp.out wA hS) ?_
        rintro ex wn ⟨rfl, rfl⟩
        go_wp2
        refine ⟨rfl, hK _ _ hS ?_⟩
        clear hK K
        refine MixH.pair [false, false, false, false, false, true] [false, false, false, false, false, false, false, false, false, false, false, false, true] 5 5 12 _ _ rfl rfl rfl rfl (by kernel_rfl) (by kernel_rfl) (fun K hK => ?_) (fun K hK => ?_)
        · simp only [Mix.pick]
          go_wp2_with fail
          refine Calls.mono (QNns.out wA hS) ?_
          rintro ex wn ⟨rfl, rfl⟩
          go_wp2
          refine ⟨rfl, hK _ _ hS ?_⟩
          clear hK K
          refine MixH.takes [false, false, false, false, false, false, true] 4 (by kernel_rfl) (by kernel_rfl) (by decide) (by kernel_rfl) hS (fun K hK => ?_)
          simp only [Mix.pick]
          repeat (go_big_quiet_step (fail))
          refine wpQuiet_nil (hK _ ?_)
          clear hK K
          refine MixH.pair [false, false, false, false, false, false, false, false, false, false, true] [false, false, false, false, false, false, false, false, false, false, false, false, true] 3 10 12 _ _ rfl rfl rfl rfl (by kernel_rfl) (by kernel_rfl) (fun K hK => ?_) (fun K hK => ?_)
          · simp only [Mix.pick]
            try rw [had]
            go_wp2_with fail
            refine Calls.mono (QCP.out wA hS) ?_
            rintro ex wC1 ⟨vv, rfl, hoB, hbB⟩
            obtain ⟨va, vc, hvv⟩ := owns_shape hoB
            subst hvv
            have HO_wC1 : Hid (wC1.ownsRow w1.heap.size 5 1 (.slice va m vc) m ((toI (L4.uP bs).d).map (Value.int .u8))) := owns_le hoB B_wA.out.size
            have B_wC1 : Hid (Below w1.heap.size w1 wC1) := bthen B_wA.out hbB
            replace hS : Below w.heap.size w wC1 := bthen hS hbB
            clear hoB hbB B_wA 
            go_wp2
            refine ⟨rfl, hK _ _ hS ?_⟩
            clear hK K
            refine MixH.takes [false, false, false, false, false, false, false, false, false, false, false, true] 2 (by kernel_rfl) (by kernel_rfl) (by decide) (by kernel_rfl) hS (fun K hK => ?_)
            simp only [Mix.pick]
            repeat (go_big_quiet_step (fail))
            refine wpQuiet_nil (hK _ ?_)
            clear hK K
            refine MixH.one [false, false, false, false, false, false, false, false, false, false, false, false, true] 1 12 _ rfl rfl (by kernel_rfl) (by kernel_rfl) (fun K hK => ?_)
            simp only [Mix.pick]
            have hSn : Below w.heap.size w (wC1.alloc (.cells #[.int .i64 0, .int .i64 0, .bool false, .slice none 0 0] 37)) := hS.alloc hS.size _
            go_wp2
            clear hS
            have hS := hSn
            refine ⟨rfl, hK _ _ hS ?_⟩
            clear hK K
            obtain ⟨wC2, hwwC2⟩ : ∃ z, z = wC1.alloc (.cells #[.int .i64 0, .int .i64 0, .bool false, .slice none 0 0] 37) := ⟨_, rfl⟩
            obtain ⟨Q, hQ⟩ : ∃ Q, Q = wC1.heap.size := ⟨_, rfl⟩
            have bq : Below wC1.heap.size wC1 wC2 := by rw [hwwC2]; exact (Below.refl _ _).alloc (Nat.le_refl _) _
            have HQL_wC2 : w1.heap.size ≤ Q := by rw [hQ]; exact B_wC1.out.size
            have HQ_wC2 : Hid (UAt wC2 Q u9z none 0 0) := by rw [hwwC2, hQ]; exact uAt_new wC1 u9z none 0 0
            have B_wC2 : Hid (Below w1.heap.size w1 wC2) := bthen B_wC1.out bq
            have HO_wC2 : Hid (wC2.ownsRow w1.heap.size 5 1 (.slice va m vc) m ((toI (L4.uP bs).d).map (Value.int .u8))) := own_dn bq HO_wC1.out
            rw [← hwwC2] at hS hSn ⊢
            rw [← hQ]
            clear hwwC2 hQ bq hSn B_wC1 HO_wC1
            refine MixH.one [false, false, false, false, false, false, false, false, false, false, false, false, false, true] 0 13 _ rfl rfl (by kernel_rfl) (by kernel_rfl) (fun K hK => ?_)
            simp only [Mix.pick]
            refine wpList_store_u9 (.tmp 11) (.tmp 49) rfl rfl Q u9z none 0 0 (L4.uP bs) va m vc rfl ?hy492 HQ_wC2.out rfl ?_
            case hy492 => first | rfl | (simp [Act.eval, uC, L4.uP])
            intro wE hRE kE
            have HEND : Hid (Below w1.heap.size w1 wE ∧ ∃ va vc, UAt wE Q (L4.uP bs) va m vc ∧ wE.ownsRow w1.heap.size 5 1 (.slice va m vc) m ((toI (L4.uP bs).d).map (Value.int .u8))) := by
              have hlq : w1.heap.size ≤ Q := HQL_wC2
              refine ⟨B_wC2.out.trans (kE.below (fun q e => by have e' : q = Q := e; omega) B_wC2.out.size), va, vc, hRE, kE.owns HO_wC2.out (fun g hg e => ?_)⟩
              have e' : g = Q := e
              subst e'
              obtain ⟨cc, hcc⟩ := kindN HO_wC2.out g hg
              have := HQ_wC2.out
              unfold UAt at this
              rw [this] at hcc
              simp at hcc
            replace hS : Below w.heap.size w wE := bthen bel1 HEND.out.1
            clear hRE kE
            go_wp2
            refine ⟨rfl, hK _ _ hS ?_⟩
            clear hK K
            refine MixH.done (by kernel_rfl) ?_
            go_wp2
            go_meet
            exact ⟨Q, rfl, HEND⟩
          · simp only [Mix.pick]
            have hSn : Below w.heap.size w (wA.alloc (.cells #[.int .i64 0, .int .i64 0, .bool false, .slice none 0 0] 37)) := hS.alloc hS.size _
            go_wp2
            clear hS
            have hS := hSn
            refine ⟨rfl, hK _ _ hS ?_⟩
            clear hK K
            obtain ⟨wC3, hwwC3⟩ : ∃ z, z = wA.alloc (.cells #[.int .i64 0, .int .i64 0, .bool false, .slice none 0 0] 37) := ⟨_, rfl⟩
            obtain ⟨Q, hQ⟩ : ∃ Q, Q = wA.heap.size := ⟨_, rfl⟩
            have bq : Below wA.heap.size wA wC3 := by rw [hwwC3]; exact (Below.refl _ _).alloc (Nat.le_refl _) _
            have HQL_wC3 : w1.heap.size ≤ Q := by rw [hQ]; exact B_wA.out.size
            have HQ_wC3 : Hid (UAt wC3 Q u9z none 0 0) := by rw [hwwC3, hQ]; exact uAt_new wA u9z none 0 0
            have B_wC3 : Hid (Below w1.heap.size w1 wC3) := bthen B_wA.out bq
            rw [← hwwC3] at hS hSn ⊢
            rw [← hQ]
            clear hwwC3 hQ bq hSn B_wA 
            refine MixH.one [false, false, false, false, false, false, false, false, false, false, true] 2 10 _ rfl rfl (by kernel_rfl) (by kernel_rfl) (fun K hK => ?_)
            simp only [Mix.pick]
            try rw [had]
            go_wp2_with fail
            refine Calls.mono (QCP.out wC3 hS) ?_
            rintro ex wC4 ⟨vv, rfl, hoB, hbB⟩
            obtain ⟨va, vc, hvv⟩ := owns_shape hoB
            subst hvv
            have HO_wC4 : Hid (wC4.ownsRow w1.heap.size 5 1 (.slice va m vc) m ((toI (L4.uP bs).d).map (Value.int .u8))) := owns_le hoB B_wC3.out.size
            have B_wC4 : Hid (Below w1.heap.size w1 wC4) := bthen B_wC3.out hbB
            have HQ_wC4 : Hid (UAt wC4 Q u9z none 0 0) := HQ_wC3.out.below hbB
            have HQL_wC4 := HQL_wC3
            replace hS : Below w.heap.size w wC4 := bthen hS hbB
            clear hoB hbB B_wC3 HQ_wC3
            go_wp2
            refine ⟨rfl, hK _ _ hS ?_⟩
            clear hK K
            refine MixH.takes [false, false, false, false, false, false, false, false, false, false, false, true] 1 (by kernel_rfl) (by kernel_rfl) (by decide) (by kernel_rfl) hS (fun K hK => ?_)
            simp only [Mix.pick]
            repeat (go_big_quiet_step (fail))
            refine wpQuiet_nil (hK _ ?_)
            clear hK K
            refine MixH.one [false, false, false, false, false, false, false, false, false, false, false, false, false, true] 0 13 _ rfl rfl (by kernel_rfl) (by kernel_rfl) (fun K hK => ?_)
            simp only [Mix.pick]
            refine wpList_store_u9 (.tmp 11) (.tmp 49) rfl rfl Q u9z none 0 0 (L4.uP bs) va m vc rfl ?hy494 HQ_wC4.out rfl ?_
            case hy494 => first | rfl | (simp [Act.eval, uC, L4.uP])
            intro wE hRE kE
            have HEND : Hid (Below w1.heap.size w1 wE ∧ ∃ va vc, UAt wE Q (L4.uP bs) va m vc ∧ wE.ownsRow w1.heap.size 5 1 (.slice va m vc) m ((toI (L4.uP bs).d).map (Value.int .u8))) := by
              have hlq : w1.heap.size ≤ Q := HQL_wC4
              refine ⟨B_wC4.out.trans (kE.below (fun q e => by have e' : q = Q := e; omega) B_wC4.out.size), va, vc, hRE, kE.owns HO_wC4.out (fun g hg e => ?_)⟩
              have e' : g = Q := e
              subst e'
              obtain ⟨cc, hcc⟩ := kindN HO_wC4.out g hg
              have := HQ_wC4.out
              unfold UAt at this
              rw [this] at hcc
              simp at hcc
            replace hS : Below w.heap.size w wE := bthen bel1 HEND.out.1
            clear hRE kE
            go_wp2
            refine ⟨rfl, hK _ _ hS ?_⟩
            clear hK K
            refine MixH.done (by kernel_rfl) ?_
            go_wp2
            go_meet
            exact ⟨Q, rfl, HEND⟩
        · simp only [Mix.pick]
          have hSn : Below w.heap.size w (wA.alloc (.cells #[.int .i64 0, .int .i64 0, .bool false, .slice none 0 0] 37)) := hS.alloc hS.size _
          go_wp2
          clear hS
          have hS := hSn
          refine ⟨rfl, hK _ _ hS ?_⟩
          clear hK K
          obtain ⟨wC5, hwwC5⟩ : ∃ z, z = wA.alloc (.cells #[.int .i64 0, .int .i64 0, .bool false, .slice none 0 0] 37) := ⟨_, rfl⟩
          obtain ⟨Q, hQ⟩ : ∃ Q, Q = wA.heap.size := ⟨_, rfl⟩
          have bq : Below wA.heap.size wA wC5 := by rw [hwwC5]; exact (Below.refl _ _).alloc (Nat.le_refl _) _
          have HQL_wC5 : w1.heap.size ≤ Q := by rw [hQ]; exact B_wA.out.size
          have HQ_wC5 : Hid (UAt wC5 Q u9z none 0 0) := by rw [hwwC5, hQ]; exact uAt_new wA u9z none 0 0
          have B_wC5 : Hid (Below w1.heap.size w1 wC5) := bthen B_wA.out bq
          rw [← hwwC5] at hS hSn ⊢
          rw [← hQ]
          clear hwwC5 hQ bq hSn B_wA 
          refine MixH.one [false, false, false, false, false, true] 4 5 _ rfl rfl (by kernel_rfl) (by kernel_rfl) (fun K hK => ?_)
          simp only [Mix.pick]
          go_wp2_with fail
          refine Calls.mono (QNns.out wC5 hS) ?_
          rintro ex wn ⟨rfl, rfl⟩
          go_wp2
          refine ⟨rfl, hK _ _ hS ?_⟩
          clear hK K
          refine MixH.takes [false, false, false, false, false, false, true] 3 (by kernel_rfl) (by kernel_rfl) (by decide) (by kernel_rfl) hS (fun K hK => ?_)
          simp only [Mix.pick]
          repeat (go_big_quiet_step (fail))
          refine wpQuiet_nil (hK _ ?_)
          clear hK K
          refine MixH.one [false, false, false, false, false, false, false, false, false, false, true] 2 10 _ rfl rfl (by kernel_rfl) (by kernel_rfl) (fun K hK => ?_)
          simp only [Mix.pick]
          try rw [had]
          go_wp2_with fail
          refine Calls.mono (QCP.out wC5 hS) ?_
          rintro ex wC6 ⟨vv, rfl, hoB, hbB⟩
          obtain ⟨va, vc, hvv⟩ := owns_shape hoB
          subst hvv
          have HO_wC6 : Hid (wC6.ownsRow w1.heap.size 5 1 (.slice va m vc) m ((toI (L4.uP bs).d).map (Value.int .u8))) := owns_le hoB B_wC5.out.size
          have B_wC6 : Hid (Below w1.heap.size w1 wC6) := bthen B_wC5.out hbB
          have HQ_wC6 : Hid (UAt wC6 Q u9z none 0 0) := HQ_wC5.out.below hbB
          have HQL_wC6 := HQL_wC5
          replace hS : Below w.heap.size w wC6 := bthen hS hbB
          clear hoB hbB B_wC5 HQ_wC5
          go_wp2
          refine ⟨rfl, hK _ _ hS ?_⟩
          clear hK K
          refine MixH.takes [false, false, false, false, false, false, false, false, false, false, false, true] 1 (by kernel_rfl) (by kernel_rfl) (by decide) (by kernel_rfl) hS (fun K hK => ?_)
          simp only [Mix.pick]
          repeat (go_big_quiet_step (fail))
          refine wpQuiet_nil (hK _ ?_)
          clear hK K
          refine MixH.one [false, false, false, false, false, false, false, false, false, false, false, false, false, true] 0 13 _ rfl rfl (by kernel_rfl) (by kernel_rfl) (fun K hK => ?_)
          simp only [Mix.pick]
          refine wpList_store_u9 (.tmp 11) (.tmp 49) rfl rfl Q u9z none 0 0 (L4.uP bs) va m vc rfl ?hy496 HQ_wC6.out rfl ?_
          case hy496 => first | rfl | (simp [Act.eval, uC, L4.uP])
          intro wE hRE kE
          have HEND : Hid (Below w1.heap.size w1 wE ∧ ∃ va vc, UAt wE Q (L4.uP bs) va m vc ∧ wE.ownsRow w1.heap.size 5 1 (.slice va m vc) m ((toI (L4.uP bs).d).map (Value.int .u8))) := by
            have hlq : w1.heap.size ≤ Q := HQL_wC6
            refine ⟨B_wC6.out.trans (kE.below (fun q e => by have e' : q = Q := e; omega) B_wC6.out.size), va, vc, hRE, kE.owns HO_wC6.out (fun g hg e => ?_)⟩
            have e' : g = Q := e
            subst e'
            obtain ⟨cc, hcc⟩ := kindN HO_wC6.out g hg
            have := HQ_wC6.out
            unfold UAt at this
            rw [this] at hcc
            simp at hcc
          replace hS : Below w.heap.size w wE := bthen bel1 HEND.out.1
          clear hRE kE
          go_wp2
          refine ⟨rfl, hK _ _ hS ?_⟩
          clear hK K
          refine MixH.done (by kernel_rfl) ?_
          go_wp2
          go_meet
          exact ⟨Q, rfl, HEND⟩
      · simp only [Mix.pick]
        have hSn : Below w.heap.size w (wA.alloc (.cells #[.int .i64 0, .int .i64 0, .bool false, .slice none 0 0] 37)) := hS.alloc hS.size _
        go_wp2
        clear hS
        have hS := hSn
        refine ⟨rfl, hK _ _ hS ?_⟩
        clear hK K
        obtain ⟨wC7, hwwC7⟩ : ∃ z, z = wA.alloc (.cells #[.int .i64 0, .int .i64 0, .bool false, .slice none 0 0] 37) := ⟨_, rfl⟩
        obtain ⟨Q, hQ⟩ : ∃ Q, Q = wA.heap.size := ⟨_, rfl⟩
        have bq : Below wA.heap.size wA wC7 := by rw [hwwC7]; exact (Below.refl _ _).alloc (Nat.le_refl _) _
        have HQL_wC7 : w1.heap.size ≤ Q := by rw [hQ]; exact B_wA.out.size
        have HQ_wC7 : Hid (UAt wC7 Q u9z none 0 0) := by rw [hwwC7, hQ]; exact uAt_new wA u9z none 0 0
        have B_wC7 : Hid (Below w1.heap.size w1 wC7) := bthen B_wA.out bq
        rw [← hwwC7] at hS hSn ⊢
        rw [← hQ]
        clear hwwC7 hQ bq hSn B_wA 
        refine MixH.one [false, false, false, true] 5 3 _ rfl rfl (by kernel_rfl) (by kernel_rfl) (fun K hK => ?_)
        simp only [Mix.pick]
        go_wp2_with fail
        refine Calls.mono (QNdp.out wC7 hS) ?_
        rintro ex wn ⟨rfl, rfl⟩
        go_wp2
        refine ⟨rfl, hK _ _ hS ?_⟩
        clear hK K
        refine MixH.one [false, false, false, false, false, true] 4 5 _ rfl rfl (by kernel_rfl) (by kernel_rfl) (fun K hK => ?_)
        simp only [Mix.pick]
        go_wp2_with fail
        refine Calls.mono (QNns.out wC7 hS) ?_
        rintro ex wn ⟨rfl, rfl⟩
        go_wp2
        refine ⟨rfl, hK _ _ hS ?_⟩
        clear hK K
        refine MixH.takes [false, false, false, false, false, false, true] 3 (by kernel_rfl) (by kernel_rfl) (by decide) (by kernel_rfl) hS (fun K hK => ?_)
        simp only [Mix.pick]
        repeat (go_big_quiet_step (fail))
        refine wpQuiet_nil (hK _ ?_)
        clear hK K
        refine MixH.one [false, false, false, false, false, false, false, false, false, false, true] 2 10 _ rfl rfl (by kernel_rfl) (by kernel_rfl) (fun K hK => ?_)
        simp only [Mix.pick]
        try rw [had]
        go_wp2_with fail
        refine Calls.mono (QCP.out wC7 hS) ?_
        rintro ex wC8 ⟨vv, rfl, hoB, hbB⟩
        obtain ⟨va, vc, hvv⟩ := owns_shape hoB
        subst hvv
        have HO_wC8 : Hid (wC8.ownsRow w1.heap.size 5 1 (.slice va m vc) m ((toI (L4.uP bs).d).map (Value.int .u8))) := owns_le hoB B_wC7.out.size
        have B_wC8 : Hid (Below w1.heap.size w1 wC8) := bthen B_wC7.out hbB
        have HQ_wC8 : Hid (UAt wC8 Q u9z none 0 0) := HQ_wC7.out.below hbB
        have HQL_wC8 := HQL_wC7
        replace hS : Below w.heap.size w wC8 := bthen hS hbB
        clear hoB hbB B_wC7 HQ_wC7
        go_wp2
        refine ⟨rfl, hK _ _ hS ?_⟩
        clear hK K
        refine MixH.takes [false, false, false, false, false, false, false, false, false, false, false, true] 1 (by kernel_rfl) (by kernel_rfl) (by decide) (by kernel_rfl) hS (fun K hK => ?_)
        simp only [Mix.pick]
        repeat (go_big_quiet_step (fail))
        refine wpQuiet_nil (hK _ ?_)
        clear hK K
        refine MixH.one [false, false, false, false, false, false, false, false, false, false, false, false, false, true] 0 13 _ rfl rfl (by kernel_rfl) (by kernel_rfl) (fun K hK => ?_)
        simp only [Mix.pick]
        refine wpList_store_u9 (.tmp 11) (.tmp 49) rfl rfl Q u9z none 0 0 (L4.uP bs) va m vc rfl ?hy498 HQ_wC8.out rfl ?_
        case hy498 => first | rfl | (simp [Act.eval, uC, L4.uP])
        intro wE hRE kE
        have HEND : Hid (Below w1.heap.size w1 wE ∧ ∃ va vc, UAt wE Q (L4.uP bs) va m vc ∧ wE.ownsRow w1.heap.size 5 1 (.slice va m vc) m ((toI (L4.uP bs).d).map (Value.int .u8))) := by
          have hlq : w1.heap.size ≤ Q := HQL_wC8
          refine ⟨B_wC8.out.trans (kE.below (fun q e => by have e' : q = Q := e; omega) B_wC8.out.size), va, vc, hRE, kE.owns HO_wC8.out (fun g hg e => ?_)⟩
          have e' : g = Q := e
          subst e'
          obtain ⟨cc, hcc⟩ := kindN HO_wC8.out g hg
          have := HQ_wC8.out
          unfold UAt at this
          rw [this] at hcc
          simp at hcc
        replace hS : Below w.heap.size w wE := bthen bel1 HEND.out.1
        clear hRE kE
        go_wp2
        refine ⟨rfl, hK _ _ hS ?_⟩
        clear hK K
        refine MixH.done (by kernel_rfl) ?_
        go_wp2
        go_meet
        exact ⟨Q, rfl, HEND⟩
    · simp only [Mix.pick]
      have hSn : Below w.heap.size w (wA.alloc (.cells #[.int .i64 0, .int .i64 0, .bool false, .slice none 0 0] 37)) := hS.alloc hS.size _
      go_wp2
      clear hS
      have hS := hSn
      refine ⟨rfl, hK _ _ hS ?_⟩
      clear hK K
      obtain ⟨wC9, hwwC9⟩ : ∃ z, z = wA.alloc (.cells #[.int .i64 0, .int .i64 0, .bool false, .slice none 0 0] 37) := ⟨_, rfl⟩
      obtain ⟨Q, hQ⟩ : ∃ Q, Q = wA.heap.size := ⟨_, rfl⟩
      have bq : Below wA.heap.size wA wC9 := by rw [hwwC9]; exact (Below.refl _ _).alloc (Nat.le_refl _) _
      have HQL_wC9 : w1.heap.size ≤ Q := by rw [hQ]; exact B_wA.out.size
      have HQ_wC9 : Hid (UAt wC9 Q u9z none 0 0) := by rw [hwwC9, hQ]; exact uAt_new wA u9z none 0 0
      have B_wC9 : Hid (Below w1.heap.size w1 wC9) := bthen B_wA.out bq
      rw [← hwwC9] at hS hSn ⊢
      rw [← hQ]
      clear hwwC9 hQ bq hSn B_wA 
      refine MixH.one [false, true] 6 1 _ rfl rfl (by kernel_rfl) (by kernel_rfl) (fun K hK => ?_)
      simp only [Mix.pick]
      go_wp2_with fail
      refine Calls.mono (QNsp.out wC9 hS) ?_
      rintro ex wn ⟨rfl, rfl⟩
      go_wp2
      refine ⟨rfl, hK _ _ hS ?_⟩
      clear hK K
      refine MixH.one [false, false, false, true] 5 3 _ rfl rfl (by kernel_rfl) (by kernel_rfl) (fun K hK => ?_)
      simp only [Mix.pick]
      go_wp2_with fail
      refine Calls.mono (QNdp.out wC9 hS) ?_
      rintro ex wn ⟨rfl, rfl⟩
      go_wp2
      refine ⟨rfl, hK _ _ hS ?_⟩
      clear hK K
      refine MixH.one [false, false, false, false, false, true] 4 5 _ rfl rfl (by kernel_rfl) (by kernel_rfl) (fun K hK => ?_)
      simp only [Mix.pick]
      go_wp2_with fail
      refine Calls.mono (QNns.out wC9 hS) ?_
      rintro ex wn ⟨rfl, rfl⟩
      go_wp2
      refine ⟨rfl, hK _ _ hS ?_⟩
      clear hK K
      refine MixH.takes [false, false, false, false, false, false, true] 3 (by kernel_rfl) (by kernel_rfl) (by decide) (by kernel_rfl) hS (fun K hK => ?_)
      simp only [Mix.pick]
      repeat (go_big_quiet_step (fail))
      refine wpQuiet_nil (hK _ ?_)
      clear hK K
      refine MixH.one [false, false, false, false, false, false, false, false, false, false, true] 2 10 _ rfl rfl (by kernel_rfl) (by kernel_rfl) (fun K hK => ?_)
      simp only [Mix.pick]
      try rw [had]
      go_wp2_with fail
      refine Calls.mono (QCP.out wC9 hS) ?_
      rintro ex wC10 ⟨vv, rfl, hoB, hbB⟩
      obtain ⟨va, vc, hvv⟩ := owns_shape hoB
      subst hvv
      have HO_wC10 : Hid (wC10.ownsRow w1.heap.size 5 1 (.slice va m vc) m ((toI (L4.uP bs).d).map (Value.int .u8))) := owns_le hoB B_wC9.out.size
      have B_wC10 : Hid (Below w1.heap.size w1 wC10) := bthen B_wC9.out hbB
      have HQ_wC10 : Hid (UAt wC10 Q u9z none 0 0) := HQ_wC9.out.below hbB
      have HQL_wC10 := HQL_wC9
      replace hS : Below w.heap.size w wC10 := bthen hS hbB
      clear hoB hbB B_wC9 HQ_wC9
      go_wp2
      refine ⟨rfl, hK _ _ hS ?_⟩
      clear hK K
      refine MixH.takes [false, false, false, false, false, false, false, false, false, false, false, true] 1 (by kernel_rfl) (by kernel_rfl) (by decide) (by kernel_rfl) hS (fun K hK => ?_)
      simp only [Mix.pick]
      repeat (go_big_quiet_step (fail))
      refine wpQuiet_nil (hK _ ?_)
      clear hK K
      refine MixH.one [false, false, false, false, false, false, false, false, false, false, false, false, false, true] 0 13 _ rfl rfl (by kernel_rfl) (by kernel_rfl) (fun K hK => ?_)
      simp only [Mix.pick]
      refine wpList_store_u9 (.tmp 11) (.tmp 49) rfl rfl Q u9z none 0 0 (L4.uP bs) va m vc rfl ?hy4910 HQ_wC10.out rfl ?_
      case hy4910 => first | rfl | (simp [Act.eval, uC, L4.uP])
      intro wE hRE kE
      have HEND : Hid (Below w1.heap.size w1 wE ∧ ∃ va vc, UAt wE Q (L4.uP bs) va m vc ∧ wE.ownsRow w1.heap.size 5 1 (.slice va m vc) m ((toI (L4.uP bs).d).map (Value.int .u8))) := by
        have hlq : w1.heap.size ≤ Q := HQL_wC10
        refine ⟨B_wC10.out.trans (kE.below (fun q e => by have e' : q = Q := e; omega) B_wC10.out.size), va, vc, hRE, kE.owns HO_wC10.out (fun g hg e => ?_)⟩
        have e' : g = Q := e
        subst e'
        obtain ⟨cc, hcc⟩ := kindN HO_wC10.out g hg
        have := HQ_wC10.out
        unfold UAt at this
        rw [this] at hcc
        simp at hcc
      replace hS : Below w.heap.size w wE := bthen bel1 HEND.out.1
      clear hRE kE
      go_wp2
      refine ⟨rfl, hK _ _ hS ?_⟩
      clear hK K
      refine MixH.done (by kernel_rfl) ?_
      go_wp2
      go_meet
      exact ⟨Q, rfl, HEND⟩
  case rest =>
    obtain ⟨Q, rfl, HQW⟩ := hcut
    obtain ⟨hbc, va, vc, hq, hoq⟩ := HQW.out
    obtain ⟨w2, hw2⟩ : ∃ w2, w2 = wc := ⟨_, rfl⟩
    rw [← hw2] at hbc hq hoq ⊢
    have HQ2 : Hid (UAt w2 Q (L4.uP bs) va m vc) := hq
    have HOO : Hid (w2.ownsRow w1.heap.size 5 1 (.slice va m vc) m ((toI (L4.uP bs).d).map (Value.int .u8))) := hoq
    have bel2 := bthen bel1 hbc
    have HR2 : Hid (UAt w2 O u9z none 0 0) := HR1.out.below hbc
    have HZ2 : Hid (UAt w2 O8 u9z none 0 0) := HZ1.out.below hbc
    have HX2 : Hid (Boxed w2 B V x) := HX1.out.old hbc
    have HY2 : Hid (Boxed w2 (B + 1) U y) := HY1.out.old hbc
    clear HR1 HZ1 HX1 HY1
    clear hw2 hbc hq hoq HQW QNsp QNdp QNns QCP had m3
    have n2 := HQ2.out.c2
    have ver := HX2.out.ver
    obtain ⟨ns, hns⟩ : ∃ ns, ns = (L4.uP bs).ns := ⟨_, rfl⟩
    rw [← hns] at n2
    have HNS : Hid (ns = true ↔ us = 0) := by
      rw [hns, ← HUS.out]
      show decide (L4.uS bs = 0) = true ↔ _
      simp
    have HNV0 : Hid ((L4.uP bs).ns = ns) := hns.symm
    clear hns q6
    by_cases hn6 : ns = true ∧ V = 6
    · have HE : Hid (E = 93) := by
        have h := HEX.out
        rw [if_pos (Or.inl ⟨HNS.out.1 hn6.1, hn6.2⟩)] at h
        exact h
      obtain ⟨rfl, rfl⟩ := hn6
      clear HEX
      go_wp2_with (first | (refine wpList_load_u9 (.tmp 8) rfl O8 u9z none 0 0 rfl HZ2.out rfl ?_) | (refine wpList_store_u9 (.tmp 6) _ rfl rfl O u9z none 0 0 u9z none 0 0 rfl rfl HR2.out rfl ?_))
      intro wE hRE kE
      have HRE : Hid (UAt wE O u9z none 0 0) := hRE
      have HFE : Hid (Below w.heap.size w wE) := bel2.trans (kE.below (fun q e => by have e' : q = O := e; have := HO2.out; omega) bel2.size)
      clear hRE kE
      go_wp2
      (try simp only [Exit.inBlock, Exit.then])
      refine bodyPost_ret (results_u9_tmp rfl _ _ O u9z none 0 0 rfl HRE.out) rfl ?_
      exact ⟨E, u9z, none, 0, 0, (by rw [HE.out]; rfl), HFE.out, rfl, d_zero _, (fun h => by rw [HE.out] at h; cases h), fun _ => ⟨rfl, rfl, rfl, rfl⟩⟩
    obtain ⟨gd, hgd⟩ : ∃ gd, gd = decide (S.fold (S.wv false (psL V U x y 17 (un : Nat) ++ bs.take un)) = 65535) := ⟨_, rfl⟩
    rw [← hgd] at QG
    have HGG : Hid (gd = decide (S.fold (S.wv false (psL V U x y 17 (un : Nat) ++ bs.take un)) = 65535)) := hgd
    have HN6 : Hid (¬ (ns = true ∧ V = 6)) := hn6
    have pk : (ns && (V == 6)) = false := by
      cases hb : ns with
      | false => rfl
      | true =>
        have : ¬ V = 6 := fun e => hn6 ⟨hb, e⟩
        simp [this]
    clear hgd
    as_aux_lemma =>
      have HNV1 : Hid ((L4.uP bs).ns = ns) := HNV0.out
      cases ns with
      | true =>
        have HNV : Hid ((L4.uP bs).ns = true) := HNV1.out
        have v6 : (V == 6) = false := pk
        have HE : Hid (E = 0) := by
          have h := HEX.out
          have h0 := HNS.out.1 rfl
          rw [if_neg (by
            rintro (⟨_, e⟩ | ⟨e, _⟩)
            · exact HN6.out ⟨rfl, e⟩
            · exact e h0)] at h
          exact h
        clear HEX hn6 pk
        go_upto_region 15 with fail
        refine MixH.start (fun A => Below w.heap.size w A ∧ Boxed A B V x ∧ Boxed A (B + 1) U y) (by kernel_rfl) ?_
        obtain ⟨wD, hwD⟩ : ∃ wD, wD = w2.drew := ⟨_, rfl⟩
        have bdr : Below w2.heap.size w2 wD := by rw [hwD]; exact (Below.refl _ _).drew
        have hS : Below w.heap.size w wD ∧ Boxed wD B V x ∧ Boxed wD (B + 1) U y := ⟨bthen bel2 bdr, HX2.out.old bdr, HY2.out.old bdr⟩
        have HBD : Hid (Below w2.heap.size w2 wD) := bdr
        rw [← hwD]
        clear hwD bdr n2 ver
        refine MixH.takes [false, false, true, true, true] 4 (by kernel_rfl) (by kernel_rfl) (by decide) (by kernel_rfl) hS (fun K hK => ?_)
        simp only [Mix.pick]
        repeat (go_big_quiet_step (fail))
        refine wpQuiet_nil (hK _ ?_)
        clear hK K
        refine MixH.take 3 0 _ (.agg (ipCells V x)) rfl (by kernel_rfl) (by kernel_rfl) (by kernel_rfl) (by kernel_rfl) (yields_ip (.tmp 3) rfl B V x rfl rfl (fun A hA => hA.2.1)) hS (fun a' ha => ?_)
        simp only [Act.put, List.setIfInBounds_toArray, List.set_cons_succ, List.set_cons_zero] at ha
        subst ha
        refine MixH.take 2 1 _ (.agg (ipCells U y)) rfl (by kernel_rfl) (by kernel_rfl) (by kernel_rfl) (by kernel_rfl) (yields_ip (.tmp 4) rfl (B + 1) U y rfl rfl (fun A hA => hA.2.2)) hS (fun a' ha => ?_)
        simp only [Act.put, List.setIfInBounds_toArray, List.set_cons_succ, List.set_cons_zero] at ha
        subst ha
        refine MixH.one [false, false, false, false, false, true] 1 5 _ rfl rfl (by kernel_rfl) (by kernel_rfl) (fun K hK => ?_)
        simp only [Mix.pick]
        go_wp2_with fail
        refine Calls.mono (QG.out wD hS.1) ?_
        rintro ex w3 ⟨rfl, hb3⟩
        have HB3 : Hid (Below wD.heap.size wD w3) := hb3
        replace hS : Below w.heap.size w w3 ∧ Boxed w3 B V x ∧ Boxed w3 (B + 1) U y := ⟨bthen hS.1 hb3, hS.2.1.old hb3, hS.2.2.old hb3⟩
        clear hb3
        go_wp2
        refine ⟨rfl, hK _ _ hS ?_⟩
        clear hK K
        refine MixH.takes [false, false, false, false, false, false, true] 0 (by kernel_rfl) (by kernel_rfl) (by decide) (by kernel_rfl) hS (fun K hK => ?_)
        simp only [Mix.pick]
        repeat (go_big_quiet_step (fail))
        refine wpQuiet_nil (hK _ ?_)
        clear hK K
        refine MixH.done (by kernel_rfl) ?_
        have bel3 := hS.1
        have hb23 := bthen HBD.out HB3.out
        have HR3 : Hid (UAt w3 O u9z none 0 0) := HR2.out.below hb23
        have HZ3 : Hid (UAt w3 O8 u9z none 0 0) := HZ2.out.below hb23
        have HQ3 : Hid (UAt w3 Q (L4.uP bs) va m vc) := HQ2.out.below hb23
        have HO3 : Hid (w3.ownsRow w1.heap.size 5 1 (.slice va m vc) m ((toI (L4.uP bs).d).map (Value.int .u8))) := own_dn hb23 HOO.out
        have n3 := HQ3.out.c2
        clear hS hb23 HBD HB3 HR2 HZ2 HQ2 HOO HX2 HY2 QG
        rw [HNV.out] at n3
        go_wp2_with (first | (refine wpList_load_u9 (.tmp 11) rfl Q (L4.uP bs) va m vc rfl HQ3.out rfl ?_) | (refine wpList_store_u9 (.tmp 6) _ rfl rfl O u9z none 0 0 (L4.uP bs) va m vc rfl rfl HR3.out rfl ?_))
        intro wE hRE kE
        have HRE : Hid (UAt wE O (L4.uP bs) va m vc) := hRE
        have HFE : Hid (Below w.heap.size w wE) := bel3.trans (kE.below (fun q e => by have e' : q = O := e; have := HO2.out; omega) bel3.size)
        have HOE : Hid (wE.ownsRow w1.heap.size 5 1 (.slice va m vc) m ((toI (L4.uP bs).d).map (Value.int .u8))) := kE.owns HO3.out (fun g hg e => by
          have e' : g = O := e
          have h1 := (HO3.out.lt g hg).1
          have h2 := HOLT.out
          omega)
        clear hRE kE
        go_wp2
        (try simp only [Exit.inBlock, Exit.then])
        refine bodyPost_ret (results_u9_tmp rfl _ _ O (L4.uP bs) va m vc rfl HRE.out) rfl ?_
        exact ⟨E, L4.uP bs, va, m, vc, (by rw [HE.out]; rfl), HFE.out, rfl, own_dok HOE.out (fun z hz => (HD.out w (Below.refl _ _)).d256 z (List.mem_of_mem_drop (List.mem_of_mem_take hz))) (by have := HMM.out; omega), fun _ => rfl, fun h => absurd HE.out h⟩
      | false =>
        have HNV : Hid ((L4.uP bs).ns = false) := HNV1.out
        cases gd with
        | false =>
          have HE : Hid (E = 93) := by
            have h := HEX.out
            have h0 : us ≠ 0 := fun e => by have := HNS.out.2 e; cases this
            rw [if_pos (Or.inr ⟨h0, of_decide_eq_false HGG.out.symm⟩)] at h
            exact h
          clear HEX hn6 pk
          go_upto_region 15 with fail
          refine MixH.start (fun A => Below w.heap.size w A ∧ Boxed A B V x ∧ Boxed A (B + 1) U y) (by kernel_rfl) ?_
          obtain ⟨wD, hwD⟩ : ∃ wD, wD = w2.drew := ⟨_, rfl⟩
          have bdr : Below w2.heap.size w2 wD := by rw [hwD]; exact (Below.refl _ _).drew
          have hS : Below w.heap.size w wD ∧ Boxed wD B V x ∧ Boxed wD (B + 1) U y := ⟨bthen bel2 bdr, HX2.out.old bdr, HY2.out.old bdr⟩
          have HBD : Hid (Below w2.heap.size w2 wD) := bdr
          rw [← hwD]
          clear hwD bdr n2 ver
          refine MixH.takes [false, false, true, true, true] 4 (by kernel_rfl) (by kernel_rfl) (by decide) (by kernel_rfl) hS (fun K hK => ?_)
          simp only [Mix.pick]
          repeat (go_big_quiet_step (fail))
          refine wpQuiet_nil (hK _ ?_)
          clear hK K
          refine MixH.take 3 0 _ (.agg (ipCells V x)) rfl (by kernel_rfl) (by kernel_rfl) (by kernel_rfl) (by kernel_rfl) (yields_ip (.tmp 3) rfl B V x rfl rfl (fun A hA => hA.2.1)) hS (fun a' ha => ?_)
          simp only [Act.put, List.setIfInBounds_toArray, List.set_cons_succ, List.set_cons_zero] at ha
          subst ha
          refine MixH.take 2 1 _ (.agg (ipCells U y)) rfl (by kernel_rfl) (by kernel_rfl) (by kernel_rfl) (by kernel_rfl) (yields_ip (.tmp 4) rfl (B + 1) U y rfl rfl (fun A hA => hA.2.2)) hS (fun a' ha => ?_)
          simp only [Act.put, List.setIfInBounds_toArray, List.set_cons_succ, List.set_cons_zero] at ha
          subst ha
          refine MixH.one [false, false, false, false, false, true] 1 5 _ rfl rfl (by kernel_rfl) (by kernel_rfl) (fun K hK => ?_)
          simp only [Mix.pick]
          go_wp2_with fail
          refine Calls.mono (QG.out wD hS.1) ?_
          rintro ex w3 ⟨rfl, hb3⟩
          have HB3 : Hid (Below wD.heap.size wD w3) := hb3
          replace hS : Below w.heap.size w w3 ∧ Boxed w3 B V x ∧ Boxed w3 (B + 1) U y := ⟨bthen hS.1 hb3, hS.2.1.old hb3, hS.2.2.old hb3⟩
          clear hb3
          go_wp2
          refine ⟨rfl, hK _ _ hS ?_⟩
          clear hK K
          refine MixH.takes [false, false, false, false, false, false, true] 0 (by kernel_rfl) (by kernel_rfl) (by decide) (by kernel_rfl) hS (fun K hK => ?_)
          simp only [Mix.pick]
          repeat (go_big_quiet_step (fail))
          refine wpQuiet_nil (hK _ ?_)
          clear hK K
          refine MixH.done (by kernel_rfl) ?_
          have bel3 := hS.1
          have hb23 := bthen HBD.out HB3.out
          have HR3 : Hid (UAt w3 O u9z none 0 0) := HR2.out.below hb23
          have HZ3 : Hid (UAt w3 O8 u9z none 0 0) := HZ2.out.below hb23
          have HQ3 : Hid (UAt w3 Q (L4.uP bs) va m vc) := HQ2.out.below hb23
          have HO3 : Hid (w3.ownsRow w1.heap.size 5 1 (.slice va m vc) m ((toI (L4.uP bs).d).map (Value.int .u8))) := own_dn hb23 HOO.out
          have n3 := HQ3.out.c2
          clear hS hb23 HBD HB3 HR2 HZ2 HQ2 HOO HX2 HY2 QG
          rw [HNV.out] at n3
          go_wp2_with (first | (refine wpList_load_u9 (.tmp 8) rfl O8 u9z none 0 0 rfl HZ3.out rfl ?_) | (refine wpList_store_u9 (.tmp 6) _ rfl rfl O u9z none 0 0 u9z none 0 0 rfl rfl HR3.out rfl ?_))
          intro wE hRE kE
          have HRE : Hid (UAt wE O u9z none 0 0) := hRE
          have HFE : Hid (Below w.heap.size w wE) := bel3.trans (kE.below (fun q e => by have e' : q = O := e; have := HO2.out; omega) bel3.size)
          clear hRE kE
          go_wp2
          (try simp only [Exit.inBlock, Exit.then])
          refine bodyPost_ret (results_u9_tmp rfl _ _ O u9z none 0 0 rfl HRE.out) rfl ?_
          exact ⟨E, u9z, none, 0, 0, (by rw [HE.out]; rfl), HFE.out, rfl, d_zero _, (fun h => by rw [HE.out] at h; cases h), fun _ => ⟨rfl, rfl, rfl, rfl⟩⟩
        | true =>
          have HE : Hid (E = 0) := by
            have h := HEX.out
            have h0 : us ≠ 0 := fun e => by have := HNS.out.2 e; cases this
            rw [if_neg (by
              rintro (⟨e, _⟩ | ⟨_, e⟩)
              · exact h0 e
              · exact e (of_decide_eq_true HGG.out.symm))] at h
            exact h
          clear HEX hn6 pk
          go_upto_region 15 with fail
          refine MixH.start (fun A => Below w.heap.size w A ∧ Boxed A B V x ∧ Boxed A (B + 1) U y) (by kernel_rfl) ?_
          obtain ⟨wD, hwD⟩ : ∃ wD, wD = w2.drew := ⟨_, rfl⟩
          have bdr : Below w2.heap.size w2 wD := by rw [hwD]; exact (Below.refl _ _).drew
          have hS : Below w.heap.size w wD ∧ Boxed wD B V x ∧ Boxed wD (B + 1) U y := ⟨bthen bel2 bdr, HX2.out.old bdr, HY2.out.old bdr⟩
          have HBD : Hid (Below w2.heap.size w2 wD) := bdr
          rw [← hwD]
          clear hwD bdr n2 ver
          refine MixH.takes [false, false, true, true, true] 4 (by kernel_rfl) (by kernel_rfl) (by decide) (by kernel_rfl) hS (fun K hK => ?_)
          simp only [Mix.pick]
          repeat (go_big_quiet_step (fail))
          refine wpQuiet_nil (hK _ ?_)
          clear hK K
          refine MixH.take 3 0 _ (.agg (ipCells V x)) rfl (by kernel_rfl) (by kernel_rfl) (by kernel_rfl) (by kernel_rfl) (yields_ip (.tmp 3) rfl B V x rfl rfl (fun A hA => hA.2.1)) hS (fun a' ha => ?_)
          simp only [Act.put, List.setIfInBounds_toArray, List.set_cons_succ, List.set_cons_zero] at ha
          subst ha
          refine MixH.take 2 1 _ (.agg (ipCells U y)) rfl (by kernel_rfl) (by kernel_rfl) (by kernel_rfl) (by kernel_rfl) (yields_ip (.tmp 4) rfl (B + 1) U y rfl rfl (fun A hA => hA.2.2)) hS (fun a' ha => ?_)
          simp only [Act.put, List.setIfInBounds_toArray, List.set_cons_succ, List.set_cons_zero] at ha
          subst ha
          refine MixH.one [false, false, false, false, false, true] 1 5 _ rfl rfl (by kernel_rfl) (by kernel_rfl) (fun K hK => ?_)
          simp only [Mix.pick]
          go_wp2_with fail
          refine Calls.mono (QG.out wD hS.1) ?_
          rintro ex w3 ⟨rfl, hb3⟩
          have HB3 : Hid (Below wD.heap.size wD w3) := hb3
          replace hS : Below w.heap.size w w3 ∧ Boxed w3 B V x ∧ Boxed w3 (B + 1) U y := ⟨bthen hS.1 hb3, hS.2.1.old hb3, hS.2.2.old hb3⟩
          clear hb3
          go_wp2
          refine ⟨rfl, hK _ _ hS ?_⟩
          clear hK K
          refine MixH.takes [false, false, false, false, false, false, true] 0 (by kernel_rfl) (by kernel_rfl) (by decide) (by kernel_rfl) hS (fun K hK => ?_)
          simp only [Mix.pick]
          repeat (go_big_quiet_step (fail))
          refine wpQuiet_nil (hK _ ?_)
          clear hK K
          refine MixH.done (by kernel_rfl) ?_
          have bel3 := hS.1
          have hb23 := bthen HBD.out HB3.out
          have HR3 : Hid (UAt w3 O u9z none 0 0) := HR2.out.below hb23
          have HZ3 : Hid (UAt w3 O8 u9z none 0 0) := HZ2.out.below hb23
          have HQ3 : Hid (UAt w3 Q (L4.uP bs) va m vc) := HQ2.out.below hb23
          have HO3 : Hid (w3.ownsRow w1.heap.size 5 1 (.slice va m vc) m ((toI (L4.uP bs).d).map (Value.int .u8))) := own_dn hb23 HOO.out
          have n3 := HQ3.out.c2
          clear hS hb23 HBD HB3 HR2 HZ2 HQ2 HOO HX2 HY2 QG
          rw [HNV.out] at n3
          go_wp2_with (first | (refine wpList_load_u9 (.tmp 11) rfl Q (L4.uP bs) va m vc rfl HQ3.out rfl ?_) | (refine wpList_store_u9 (.tmp 6) _ rfl rfl O u9z none 0 0 (L4.uP bs) va m vc rfl rfl HR3.out rfl ?_))
          intro wE hRE kE
          have HRE : Hid (UAt wE O (L4.uP bs) va m vc) := hRE
          have HFE : Hid (Below w.heap.size w wE) := bel3.trans (kE.below (fun q e => by have e' : q = O := e; have := HO2.out; omega) bel3.size)
          have HOE : Hid (wE.ownsRow w1.heap.size 5 1 (.slice va m vc) m ((toI (L4.uP bs).d).map (Value.int .u8))) := kE.owns HO3.out (fun g hg e => by
            have e' : g = O := e
            have h1 := (HO3.out.lt g hg).1
            have h2 := HOLT.out
            omega)
          clear hRE kE
          go_wp2
          (try simp only [Exit.inBlock, Exit.then])
          refine bodyPost_ret (results_u9_tmp rfl _ _ O (L4.uP bs) va m vc rfl HRE.out) rfl ?_
          exact ⟨E, L4.uP bs, va, m, vc, (by rw [HE.out]; rfl), HFE.out, rfl, own_dok HOE.out (fun z hz => (HD.out w (Below.refl _ _)).d256 z (List.mem_of_mem_drop (List.mem_of_mem_take hz))) (by have := HMM.out; omega), fun _ => rfl, fun h => absurd HE.out h⟩
end Go.Proofs.YtfoeepbndfnifaaDoor
