/-
  The statements' joined, same.
-/
import Derived.Test.YtfnmidaiabjpbabSum5
import Derived.Laws.AppendOwnNone
namespace Go.Proofs.Ytfnmidaiabjpbab
open Go.RowKit

theorem run_append_nil {P : Program} {w : World} (base : Nat) (t ty e : TypeId) (i : TypeInfo) (size : Nat) (ht : P.underlying t = some (.slice e)) (hi : P.info? e = some i)
    (v : Value) (n c : Nat) (xs : List Value) (hown : w.ownsRow base e size v n xs) :
    (Builtin.append_ #[t, t] ty #[v, .slice none 0 c]).run P w = .ok v w := by
  rcases hown.2 with ⟨rfl, rfl⟩ | ⟨g, cap, cur, rfl, _, _, hnc, _⟩
  · simp [Builtin.append_, run_underlying ht, sizeOf, typeInfo, hi, Builtin.lenOf, Builtin.firstCells]
  · simp [Builtin.append_, run_underlying ht, sizeOf, typeInfo, hi, Builtin.lenOf, Builtin.firstCells, hnc, storeCells]
/-- 'append(v, x...)': v the call's own, x a slice whose elements are the numbers zs, nil or not. -/
theorem wpList_append_seg {P : Program} {w : World} {ops : Array Oper} {rest : List Oper} {o : Oper} {a : Act} {Q : Exit → Act → World → Prop} (hgd : o.guard = none) (s x : Operand) (t : TypeId)
    (ho : o.op = .call { callee := .builtin .append, args := #[s, x], argTypes := #[t, t] })
    (base : Nat) (e : TypeId) (i : TypeInfo) (z : Value) (bytes : Nat) (ht : P.underlying t = some (.slice e)) (hi : P.info? e = some i) (hz : i.zero = some z)
    (hsize : i.size = 1) (hby : i.bytes = bytes) (hzs : z.cells.size = 1)
    (v : Value) (n : Nat) (xs : List Value) (hs : a.eval s = v) (hown : w.ownsRow base e 1 v n xs)
    (k : IntKind) (ad : Option Addr) (m c : Nat) (zs : List Int) (hx : a.eval x = .slice ad m c) (hm : zs.length = m) (hseg : Seg k w ad zs)
    (h63 : n + m ≤ maxLen) (hbytes : (n + m) * bytes ≤ 140737488355328) (hbase : base ≤ w.heap.size)
    (h : ∀ v' w', w'.ownsRow base e 1 v' (n + m) (xs ++ zs.map (Value.int k)) → w.grownBy w' v.ownBlock → wpList P ops Q rest (a.put o.dst v') w') : wpList P ops Q (o :: rest) a w := by
  have nil_case : zs = [] → ad = none → wpList P ops Q (o :: rest) a w := by
    intro hz0 hn
    subst hz0 hn
    have hm0 : m = 0 := by simpa using hm.symm
    subst hm0
    refine wpList_plain hgd fun K hK => ?_
    have hrun := run_append_nil (P := P) (w := w) base t o.type e i 1 ht hi v n c xs hown
    unfold Oper.wp
    simp [execOp, ho, resolve, invoke, builtin, hs, hx, hrun, Result.andThen]
    exact hK _ _ (h v w (by simpa using hown) ⟨rfl, rfl, rfl, Nat.le_refl _, fun _ _ _ => rfl⟩)
  have some_case : ∀ b : Addr, ad = some b → (∀ j u, (zs.map (Value.int k))[j]? = some u → w.cell? (b.add j) = some u) → wpList P ops Q (o :: rest) a w := by
    intro b hb hc
    subst hb
    refine wpList_append_own w hgd s x t ho base e i z 1 bytes ht hi hz hsize hby hzs (by decide) v n xs hs hown b m c (zs.map (Value.int k)) hx (by simpa using hm) hc ?_ h63 hbytes hbase (fun v' w' h1 h2 _ => h v' w' h1 h2)
    intro u hu
    simp only [List.mem_map] at hu
    obtain ⟨y, _, rfl⟩ := hu
    rfl
  rcases hseg with hz0 | ⟨b, off, rfl, hc⟩
  · cases ad with
    | none => exact nil_case hz0 rfl
    | some b => exact some_case b rfl (by intro j u hj; rw [hz0] at hj; simp at hj)
  · refine some_case _ rfl ?_
    intro j u hj
    have hj' : j < zs.length := by
      have := (List.getElem?_eq_some_iff.1 hj).1
      simpa using this
    rw [Addr.add_lit, hc j hj']
    simp [List.getElem?_eq_getElem hj'] at hj
    rw [← hj]
    simp [List.getD, hj']

theorem grown_trans {a b c : World} {r : Option Nat} (h : a.grownBy b r) (k : b.grownBy c r) : a.grownBy c r :=
  ⟨k.os.trans h.os, k.tape.trans h.tape, k.output.trans h.output, Nat.le_trans h.size k.size, fun i hi hr => (k.block i (Nat.lt_of_lt_of_le hi h.size) hr).trans (h.block i hi hr)⟩
theorem take_same (l m : List Nat) (k : Nat) (h1 : k < l.length) (h2 : k < m.length) (he : l.take k = m.take k) (hk : l.getD k 0 = m.getD k 0) : Hid (l.take (k + 1) = m.take (k + 1)) := by
  show _ = _
  rw [List.take_succ_eq_append_getElem h1, List.take_succ_eq_append_getElem h2, he]
  simp [List.getD, h1, h2] at hk
  rw [hk]

set_option maxHeartbeats 400000 in
theorem same_any (a b : Option Addr) (n1 n2 ca cb : Nat) (l m : List Nat) (w : World) (hn1 : l.length = n1) (hn2 : m.length = n2) (hl : Seg .u8 w a (toI l)) (hm : Seg .u8 w b (toI m)) (hl2 : n1 ≤ 9223372036854775807) :
    Calls Try.prog 16 #[.slice a n1 ca, .slice b n2 cb] w fun e w' => e = .returned (.bool (decide (l = m))) ∧ Below w.heap.size w w' := by
  subst hn1 hn2
  by_cases hlen : l.length = m.length
  · have h1 : ((l.length : Int) != (m.length : Int)) = false := by simp; omega
    have HLEN : Hid (l.length = m.length) := hlen
    obtain ⟨n, hn⟩ : ∃ n, n = l.length := ⟨_, rfl⟩
    have HN : Hid (l.length = n ∧ m.length = n) := ⟨hn.symm, by omega⟩
    have e2 : m.length = n := by omega
    rw [e2, ← hn]
    rw [← hn] at hl2
    clear h1 hlen hn e2
    have h1 : ((n : Int) != (n : Int)) = false := by simp
    go_enter Try.func16, Try.ntmps16
    go_wp2
    go_loopw [5] (fun ix wr => ∃ k : Nat, k ≤ n ∧ ix = .int .i64 k ∧ Hid (l.take k = m.take k) ∧ Below w.heap.size w wr) (fun ix _ => n - (intOf ix).toNat)
    case atStart => exact ⟨0, Nat.zero_le _, rfl, by show _ = _; simp, Below.refl _ _⟩
    case round =>
      obtain ⟨k, hk, rfl, HE, hbel⟩ := hrel
      by_cases hlt : k < n
      · obtain ⟨lb, loff, rfl, hlc⟩ := seg_at (hl.old hbel) k (by rw [HN.out.1]; exact hlt)
        obtain ⟨mb, moff, rfl, hmc⟩ := seg_at (hm.old hbel) k (by rw [HN.out.2]; exact hlt)
        have c1 := hlc k (by rw [HN.out.1]; exact hlt)
        have c2 := hmc k (by rw [HN.out.2]; exact hlt)
        obtain ⟨x, hx⟩ : ∃ x, x = l.getD k 0 := ⟨_, rfl⟩
        obtain ⟨y, hy⟩ : ∃ y, y = m.getD k 0 := ⟨_, rfl⟩
        rw [← hx] at c1
        rw [← hy] at c2
        have HX : Hid (x = l.getD k 0) := hx
        have HY : Hid (y = m.getD k 0) := hy
        clear hlc hmc hx hy
        by_cases hxy : x = y
        · subst hxy
          have hq : ((x : Int) != (x : Int)) = false := by simp
          go_wp2
          go_region
          go_wp2
          go_roundw
          case rel => exact ⟨k + 1, by omega, by go_num, take_same l m k (by rw [HN.out.1]; exact hlt) (by rw [HN.out.2]; exact hlt) HE.out (by rw [← HX.out, ← HY.out]), hbel.drew⟩
          case measure => simp [intOf]; omega
        · have hq : ((x : Int) != (y : Int)) = true := by simp; omega
          go_wp2
          go_region
          go_wp2
          go_ret
          have : l ≠ m := fun e => hxy (by rw [HX.out, HY.out, e])
          exact ⟨by simp [this], hbel.drew⟩
      · obtain rfl : k = n := by omega
        have : l = m := by
          have h := HE.out
          rw [List.take_of_length_le (by rw [HN.out.1]; omega), List.take_of_length_le (by rw [HN.out.2]; omega)] at h
          exact h
        have HLM : Hid (l = m) := this
        clear this
        go_wp2
        go_ret
        exact ⟨by simp [HLM.out], hbel⟩
  · have h1 : ((l.length : Int) != (m.length : Int)) = true := by rw [bne_iff_ne]; omega
    have hne : Hid (l ≠ m) := fun e => hlen (by rw [e])
    go_enter Try.func16, Try.ntmps16
    go_wp2
    go_ret
    exact ⟨by simp [hne.out], Below.refl _ _⟩

theorem allB_len_le (ps : List Part) (k : Nat) (h : k < ps.length) : (allB (ps.take k)).length + ps[k].l.length ≤ (allB ps).length := by
  have h1 := allB_take_le ps (k + 1)
  rw [allB_take_succ ps k h, List.length_append] at h1
  exact h1

set_option maxHeartbeats 400000 in
theorem joined_any (a : Option Addr) (n cap : Nat) (ps : List Part) (w : World) (hn : ps.length = n) (hps : Parts w a ps) (htot : (allB ps).length ≤ 1099511627776) (hn2 : n ≤ 9223372036854775807) :
    Calls Try.prog 9 #[.slice a n cap] w fun e w' => ∃ v, e = .returned v ∧ OwnB w' w.heap.size v (allB ps).length (allB ps) ∧ Below w.heap.size w w' := by
  subst hn
  obtain ⟨i0, hi, hz0, hz1, hz2⟩ := info_parts Try.infoByte
  obtain ⟨hcells, hok⟩ := hps
  have HT : Hid ((allB ps).length ≤ 1099511627776) := htot
  clear htot
  go_enter Try.func9, Try.ntmps9
  go_wp2
  go_loopw [3, 4] (fun v ix wr => ∃ k m : Nat, k ≤ ps.length ∧ ix = .int .i64 k ∧ Hid (m = (allB (ps.take k)).length) ∧ OwnB wr w.heap.size v m (allB (ps.take k)) ∧ Below w.heap.size w wr) (fun _ ix _ => ps.length - (intOf ix).toNat)
  case atStart => exact ⟨0, 0, Nat.zero_le _, rfl, by show _ = _; simp [allB], World.ownsRow_nil _ _ _ _, Below.refl _ _⟩
  case round =>
    obtain ⟨k, m, hk, rfl, HM, ho, hbel⟩ := hrel
    by_cases hlt : k < ps.length
    · rcases hcells with hnil | ⟨b, off, rfl, hc⟩
      · rw [hnil] at hlt; simp at hlt
      have hcell := (hbel.cell (p := ⟨b, off + k, none⟩) (World.block_lt_of_cell? w _ (hc k hlt))).trans (hc k hlt)
      have hp := (hok _ (List.getElem_mem hlt)).old hbel
      have e1 := allB_take_succ ps k hlt
      have e2 := allB_len_le ps k hlt
      obtain ⟨p, hpe⟩ : ∃ p, p = ps[k] := ⟨_, rfl⟩
      rw [← hpe] at hcell hp e1 e2
      obtain ⟨pa, pc, l⟩ := p
      obtain ⟨hseg, hl256, hlc, hpc⟩ := hp
      simp only [Part.val] at hcell hseg hl256 hlc hpc e1 e2
      have hml : m + l.length ≤ 1099511627776 := by have := HT.out; have := HM.out; omega
      have HE1 : Hid _ := e1
      have HLL : Hid ((toI l).length = l.length) := toI_len l
      clear e1 e2 hpe hc
      go_wp2_with (first | (at_builtin; refine wpList_append_seg rfl (.tmp 11) (.tmp 15) 24 rfl w.heap.size 5 i0 (.int .u8 0) 1 Try.underlying24 hi hz0 hz1 hz2 rfl _ m _ rfl ho .u8 pa l.length pc (toI l) rfl HLL.out hseg (by unfold maxLen; omega) (by omega) hbel.size ?_))
      intro v1 w1 ho1 hg1
      have hb1 : Below w.heap.size w w1 := hbel.grown hg1 hbel.size (fun j hj => (ho.lt j hj).1)
      have ho2 : OwnB w1 w.heap.size v1 (m + l.length) (allB (ps.take (k + 1))) := by
        rw [OwnB, HE1.out]
        simpa [toI] using ho1
      clear ho1 hg1 ho hbel
      go_wp2
      go_roundw
      case rel => exact ⟨k + 1, m + l.length, by omega, by go_num, by show _ = _; rw [HE1.out, List.length_append, ← HM.out], ho2, hb1⟩
      case measure => simp [intOf]; omega
    · obtain rfl : k = ps.length := by omega
      have hm := HM.out
      rw [List.take_length] at ho hm
      rw [hm] at ho
      go_wp2
      go_ret
      exact ⟨_, rfl, ho, hbel⟩
end Go.Proofs.Ytfnmidaiabjpbab
