/-
  Layer 15: the statements' own small functions: num, ip, sameInts, sameAll, sameAsks.
-/
import Derived.Test.YtnpipngiehohgaaNgEq
namespace Go.Proofs.Ytnpipngiehohgaa
open Go.RowKit

theorem num_any (er : Int) (w : World) : Calls Try.prog 21 #[.int .i64 er] w fun e w' => e = .returned (.int .i64 er) ∧ w = w' := by
  go_enter Try.func21, Try.ntmps21
  go_wp2
  go_ret
  exact ⟨rfl, rfl⟩
def ip4X (d : Nat) : Nat → Nat := fun i => if i = 0 then 10 else if i = 3 then d else 0
theorem run_buildar4 (d : Nat) (w : World) : (Instr.build 29 #[(0, .int .u8 10), (1, .int .u8 0), (2, .int .u8 0), (3, .int .u8 (d : Nat))]).run Try.prog w = .ok (.agg (arCells (ip4X d))) w := by kernel_rfl
theorem run_buildip (V : Int) (f : Nat → Nat) (w : World) : (Instr.build 31 #[(0, .int .i64 V), (1, .agg (arCells f))]).run Try.prog w = .ok (.agg (ipCells V f)) w := by kernel_rfl
theorem wpList_build_ar4 {ops : Array Oper} {rest : List Oper} {o : Oper} {a : Act} {w : World} {Q : Exit → Act → World → Prop} (x : Operand) (ho : o.op = .build 29 #[(0, .const (.int .u8 10)), (1, .const (.int .u8 0)), (2, .const (.int .u8 0)), (3, x)]) (d : Nat) (hx : a.eval x = .int .u8 (d : Nat)) (hw : Region.wanted o (yielded ops a.tmps) = true)
    (h : wpList Try.prog ops Q rest (a.put o.dst (.agg (arCells (ip4X d)))) w) : wpList Try.prog ops Q (o :: rest) a w := by
  refine wpList_step fun K hK => ?_
  rw [if_pos hw]
  have hrun : (execOp a.eval o).run Try.prog w = .ok (.value (.agg (arCells (ip4X d)))) w := by
    unfold execOp
    simp only [ho, Sem.run_bind, List.map_toArray, List.map_cons, List.map_nil, hx]
    have := run_buildar4 d w
    simp only [show ∀ l, a.eval (.const l) = l from fun _ => rfl, this, Result.andThen_ok]
    rfl
  unfold Oper.wp
  rw [hrun]
  exact hK _ _ h
theorem wpList_build_ip {ops : Array Oper} {rest : List Oper} {o : Oper} {a : Act} {w : World} {Q : Exit → Act → World → Prop} (x y : Operand) (ho : o.op = .build 31 #[(0, x), (1, y)]) (V : Int) (f : Nat → Nat) (hx : a.eval x = .int .i64 V) (hy : a.eval y = .agg (arCells f)) (hw : Region.wanted o (yielded ops a.tmps) = true)
    (h : wpList Try.prog ops Q rest (a.put o.dst (.agg (ipCells V f))) w) : wpList Try.prog ops Q (o :: rest) a w := by
  refine wpList_step fun K hK => ?_
  rw [if_pos hw]
  have hrun : (execOp a.eval o).run Try.prog w = .ok (.value (.agg (ipCells V f))) w := by
    unfold execOp
    simp only [ho, Sem.run_bind, List.map_toArray, List.map_cons, List.map_nil, hx, hy, run_buildip V f w, Result.andThen_ok]
    rfl
  unfold Oper.wp
  rw [hrun]
  exact hK _ _ h
set_option maxHeartbeats 800000 in
set_option maxRecDepth 100000 in
theorem ip_any (d : Nat) (w : World) : Calls Try.prog 45 #[.int .u8 (d : Nat)] w fun e w' => e = .returned (.agg (ipCells 4 (ip4X d))) ∧ Below w.heap.size w w' := by
  go_enter Try.func45, Try.ntmps45
  go_wp2_with (first | (refine wpList_alloc_ipr rfl rfl ?_) | (refine wpList_build_ar4 (.tmp 3) rfl d rfl rfl ?_) | (refine wpList_build_ip (.const (.int .i64 4)) (.tmp 4) rfl 4 (ip4X d) rfl rfl rfl ?_) | (refine wpList_store_ipr (.tmp 2) (.tmp 5) rfl rfl w.heap.size 0 (fun _ => 0) 4 (ip4X d) rfl rfl (ipr_new w 0 (fun _ => 0)) rfl ?_))
  intro w1 h1 k1
  have HB : Hid (IprAt w1 w.heap.size 4 (ip4X d)) := h1
  have bz : Below w.heap.size w (w.alloc (.cells (ipCells 0 (fun _ => 0)) 31)) := (Below.refl _ _).alloc (Nat.le_refl _) _
  have HBL : Hid (Below w.heap.size w w1) := bz.trans (k1.below (fun q e => by have e' : q = w.heap.size := e; omega) bz.size)
  clear h1 k1 bz
  go_wp2_with fail
  refine bodyPost_ret (results_ipr rfl _ _ w.heap.size 4 (ip4X d) rfl HB.out) rfl ?_
  exact ⟨rfl, HBL.out⟩
theorem take_same (l m : List Int) (k : Nat) (h1 : k < l.length) (h2 : k < m.length) (he : l.take k = m.take k) (hk : l.getD k 0 = m.getD k 0) : Hid (l.take (k + 1) = m.take (k + 1)) := by
  show _ = _
  rw [List.take_succ_eq_append_getElem h1, List.take_succ_eq_append_getElem h2, he]
  simp [List.getD, h1, h2] at hk
  rw [hk]

set_option maxHeartbeats 400000 in
set_option maxRecDepth 100000 in
theorem sameInts_any (a b : Option Addr) (ca cb : Nat) (l m : List Int) (w : World) (hl : Seg .i64 w a l) (hm : Seg .i64 w b m) (hl2 : l.length ≤ 9223372036854775807) :
    Calls Try.prog 28 #[.slice a l.length ca, .slice b m.length cb] w fun e w' => e = .returned (.bool (decide (l = m))) ∧ Below w.heap.size w w' := by
  by_cases hlen : l.length = m.length
  · have h1 : ((l.length : Int) != (m.length : Int)) = false := by simp; omega
    go_enter Try.func28, Try.ntmps28
    go_wp2
    go_loopw [5] (fun ix wr => ∃ k : Nat, k ≤ l.length ∧ ix = .int .i64 k ∧ Hid (l.take k = m.take k) ∧ Below w.heap.size w wr) (fun ix _ => l.length - (intOf ix).toNat)
    case atStart => exact ⟨0, Nat.zero_le _, rfl, by show _ = _; simp, Below.refl _ _⟩
    case round =>
      obtain ⟨k, hk, rfl, HE, hbel⟩ := hrel
      by_cases hlt : k < l.length
      · have hl1 := hl.old hbel
        have hm1 := hm.old hbel
        rcases hl1 with hnil | ⟨lb, loff, rfl, hlc⟩
        · exact absurd hlt (by rw [hnil]; simp)
        rcases hm1 with hnil | ⟨mb, moff, rfl, hmc⟩
        · exact absurd hlt (by rw [hlen, hnil]; simp)
        have c1 := hlc k hlt
        have c2 := hmc k (by omega)
        obtain ⟨x, hx⟩ : ∃ x, x = l.getD k 0 := ⟨_, rfl⟩
        obtain ⟨y, hy⟩ : ∃ y, y = m.getD k 0 := ⟨_, rfl⟩
        rw [← hx] at c1
        rw [← hy] at c2
        have HX : Hid (x = l.getD k 0) := hx
        have HY : Hid (y = m.getD k 0) := hy
        have HL : Hid (l.length = m.length) := hlen
        have hm3 : k < m.length := by omega
        clear hlc hmc hx hy hlen
        by_cases hxy : x = y
        · subst hxy
          have hq : (x != x) = false := by simp
          go_wp2
          go_region
          go_wp2
          go_roundw
          case rel => exact ⟨k + 1, by omega, by go_num, take_same l m k hlt hm3 HE.out (by rw [← HX.out, ← HY.out]), hbel.drew⟩
          case measure => simp [intOf]; omega
        · have hq : (x != y) = true := by simpa using hxy
          go_wp2
          go_region
          go_wp2
          go_ret
          have : l ≠ m := fun e => hxy (by rw [HX.out, HY.out, e])
          exact ⟨by simp [this], hbel.drew⟩
      · obtain rfl : k = l.length := by omega
        have : l = m := by
          have h := HE.out
          rw [List.take_length, hlen, List.take_length] at h
          exact h
        have HLM : Hid (l = m) := this
        clear this
        go_wp2
        go_ret
        exact ⟨by simp [HLM.out], hbel⟩
  · have h1 : ((l.length : Int) != (m.length : Int)) = true := by rw [bne_iff_ne]; omega
    have hne : Hid (l ≠ m) := fun e => hlen (by rw [e])
    go_enter Try.func28, Try.ntmps28
    go_wp2
    go_ret
    exact ⟨by simp [hne.out], Below.refl _ _⟩
set_option maxHeartbeats 1600000 in
set_option maxRecDepth 100000 in
theorem sameAll_true (v v' : Value) (L : List NB) (b b' : Nat) (w : World) (h : NL w b v L) (h' : NL w b' v' L) (hl : L.length ≤ 100000) : Calls Try.prog 23 #[v, v'] w fun e w' => e = .returned (.bool true) ∧ Below w.heap.size w w' := by
  obtain ⟨va, vc, rfl⟩ := h.form
  obtain ⟨va', vc', rfl⟩ := h'.form
  obtain ⟨n, hn⟩ : ∃ n, n = L.length := ⟨_, rfl⟩
  have HN : Hid (L.length = n ∧ n ≤ 100000) := ⟨hn.symm, by omega⟩
  rw [← hn] at h h' ⊢
  have HH : Hid (NL w b (.slice va n vc) L ∧ NL w b' (.slice va' n vc') L) := ⟨h, h'⟩
  clear h h' hl hn
  have hq : ((n : Int) != (n : Int)) = false := by simp
  go_enter Try.func23, Try.ntmps23
  go_wp2
  go_loopw [5] (fun ix wr => ∃ i : Nat, ix = .int .i64 i ∧ i ≤ n ∧ Hid (Below w.heap.size w wr)) (fun ix _ => n - (intOf ix).toNat)
  case atStart => exact ⟨0, rfl, by omega, Below.refl _ _⟩
  case round =>
    obtain ⟨i, rfl, hi, HB⟩ := hrel
    by_cases hlt : i < n
    · have k0 : (0 : Int) ≤ (i : Int) := by omega
      have k1 : (i : Int) < (n : Int) := by omega
      have k2 : ((i : Int)).toNat = i := by omega
      have wi : IntKind.i64.wrap ((i : Int) + 1) = (i : Int) + 1 := by have := HN.out.2; rw [IntKind.wrap_i64]; omega
      obtain ⟨e, he⟩ : ∃ e, L[i]? = some e := ⟨_, List.getElem?_eq_getElem (by rw [HN.out.1]; exact hlt)⟩
      obtain ⟨g, cap, hvg, _, _, hrg⟩ := (NL.below HH.out.1 HB.out).at i e he
      obtain ⟨g', cap', hvg', _, _, hrg'⟩ := (NL.below HH.out.2 HB.out).at i e he
      simp only [Value.slice.injEq] at hvg hvg'
      obtain ⟨rfl, hq0, rfl⟩ := hvg
      obtain ⟨rfl, hq1, rfl⟩ := hvg'
      clear hq0 hq1
      have HRG : Hid (wr.rangeAt g (i * 28) (nbC e).toList ∧ wr.rangeAt g' (i * 28) (nbC e).toList) := ⟨hrg, hrg'⟩
      have HLT : Hid (i < n) := hlt
      clear he hrg hrg' hi
      go_upto_region 6 with fail
      refine MixH.start (fun A => A.rangeAt g (i * 28) (nbC e).toList ∧ A.rangeAt g' (i * 28) (nbC e).toList) (by kernel_rfl) ?_
      obtain ⟨wA, hwA⟩ : ∃ wA, wA = wr.drew := ⟨_, rfl⟩
      have bdr : Below wr.heap.size wr wA := by rw [hwA]; exact (Below.refl _ _).drew
      have hS : wA.rangeAt g (i * 28) (nbC e).toList ∧ wA.rangeAt g' (i * 28) (nbC e).toList := by rw [hwA]; exact HRG.out
      have HE : Hid (Below w.heap.size w wA) := bthen HB.out bdr
      rw [← hwA]
      clear hwA bdr HRG HB
      refine MixH.takes [true, true, true] 6 (by kernel_rfl) (by kernel_rfl) (by decide) (by kernel_rfl) hS (fun K hK => ?_)
      simp only [Mix.pick]
      repeat (go_big_quiet_step (fail))
      refine wpQuiet_nil (hK _ ?_)
      clear hK K
      refine MixH.take 5 3 _ (.agg (nbC e)) rfl (by kernel_rfl) (by kernel_rfl) (by kernel_rfl) (by kernel_rfl) (yields_nbr (.tmp 19) rfl g (i * 28) e rfl rfl (fun A hA => hA.1)) hS (fun a' ha => ?_)
      simp only [Act.put, List.setIfInBounds_toArray, List.set_cons_succ, List.set_cons_zero] at ha
      subst ha
      refine MixH.takes [false, false, false, false, true, true, true] 2 (by kernel_rfl) (by kernel_rfl) (by decide) (by kernel_rfl) hS (fun K hK => ?_)
      simp only [Mix.pick]
      repeat (go_big_quiet_step (fail))
      refine wpQuiet_nil (hK _ ?_)
      clear hK K
      refine MixH.take 1 7 _ (.agg (nbC e)) rfl (by kernel_rfl) (by kernel_rfl) (by kernel_rfl) (by kernel_rfl) (yields_nbr (.tmp 23) rfl g' (i * 28) e rfl rfl (fun A hA => hA.2)) hS (fun a' ha => ?_)
      simp only [Act.put, List.setIfInBounds_toArray, List.set_cons_succ, List.set_cons_zero] at ha
      subst ha
      refine MixH.take 0 8 _ (.bool false) rfl (by kernel_rfl) (by kernel_rfl) (by kernel_rfl) (by kernel_rfl) (yields_neq_nbr (.tmp 20) (.tmp 24) rfl e rfl rfl rfl) hS (fun a' ha => ?_)
      simp only [Act.put, List.setIfInBounds_toArray, List.set_cons_succ, List.set_cons_zero] at ha
      subst ha
      refine MixH.done (by kernel_rfl) ?_
      clear hS
      go_wp2
      go_roundw
      case rel => exact ⟨i + 1, by first | rfl | go_num, by have := HLT.out; omega, HE⟩
      case measure => have := HLT.out; simp [intOf]; omega
    · have hni : ¬ ((i : Int) < (n : Int)) := by omega
      go_wp2
      go_ret
      exact ⟨rfl, HB.out⟩
set_option maxHeartbeats 1600000 in
set_option maxRecDepth 100000 in
theorem sameAsks_true (v v' : Value) (L : List AK) (b b' : Nat) (w : World) (h : AL w b v L) (h' : AL w b' v' L) (hl : L.length ≤ 100000) : Calls Try.prog 29 #[v, v'] w fun e w' => e = .returned (.bool true) ∧ Below w.heap.size w w' := by
  obtain ⟨va, vc, rfl⟩ := h.form
  obtain ⟨va', vc', rfl⟩ := h'.form
  obtain ⟨n, hn⟩ : ∃ n, n = L.length := ⟨_, rfl⟩
  have HN : Hid (L.length = n ∧ n ≤ 100000) := ⟨hn.symm, by omega⟩
  rw [← hn] at h h' ⊢
  have HH : Hid (AL w b (.slice va n vc) L ∧ AL w b' (.slice va' n vc') L) := ⟨h, h'⟩
  clear h h' hl hn
  have hq : ((n : Int) != (n : Int)) = false := by simp
  go_enter Try.func29, Try.ntmps29
  go_wp2
  go_loopw [5] (fun ix wr => ∃ i : Nat, ix = .int .i64 i ∧ i ≤ n ∧ Hid (Below w.heap.size w wr)) (fun ix _ => n - (intOf ix).toNat)
  case atStart => exact ⟨0, rfl, by omega, Below.refl _ _⟩
  case round =>
    obtain ⟨i, rfl, hi, HB⟩ := hrel
    by_cases hlt : i < n
    · have k0 : (0 : Int) ≤ (i : Int) := by omega
      have k1 : (i : Int) < (n : Int) := by omega
      have k2 : ((i : Int)).toNat = i := by omega
      have wi : IntKind.i64.wrap ((i : Int) + 1) = (i : Int) + 1 := by have := HN.out.2; rw [IntKind.wrap_i64]; omega
      obtain ⟨e, he⟩ : ∃ e, L[i]? = some e := ⟨_, List.getElem?_eq_getElem (by rw [HN.out.1]; exact hlt)⟩
      obtain ⟨g, cap, hvg, _, _, hrg⟩ := (AL.below HH.out.1 HB.out).at i e he
      obtain ⟨g', cap', hvg', _, _, hrg'⟩ := (AL.below HH.out.2 HB.out).at i e he
      simp only [Value.slice.injEq] at hvg hvg'
      obtain ⟨rfl, hq0, rfl⟩ := hvg
      obtain ⟨rfl, hq1, rfl⟩ := hvg'
      clear hq0 hq1
      have HRG : Hid (wr.rangeAt g (i * 25) (akC e).toList ∧ wr.rangeAt g' (i * 25) (akC e).toList) := ⟨hrg, hrg'⟩
      have HLT : Hid (i < n) := hlt
      clear he hrg hrg' hi
      go_upto_region 6 with fail
      refine MixH.start (fun A => A.rangeAt g (i * 25) (akC e).toList ∧ A.rangeAt g' (i * 25) (akC e).toList) (by kernel_rfl) ?_
      obtain ⟨wA, hwA⟩ : ∃ wA, wA = wr.drew := ⟨_, rfl⟩
      have bdr : Below wr.heap.size wr wA := by rw [hwA]; exact (Below.refl _ _).drew
      have hS : wA.rangeAt g (i * 25) (akC e).toList ∧ wA.rangeAt g' (i * 25) (akC e).toList := by rw [hwA]; exact HRG.out
      have HE : Hid (Below w.heap.size w wA) := bthen HB.out bdr
      rw [← hwA]
      clear hwA bdr HRG HB
      refine MixH.takes [true, true, true] 6 (by kernel_rfl) (by kernel_rfl) (by decide) (by kernel_rfl) hS (fun K hK => ?_)
      simp only [Mix.pick]
      repeat (go_big_quiet_step (fail))
      refine wpQuiet_nil (hK _ ?_)
      clear hK K
      refine MixH.take 5 3 _ (.agg (akC e)) rfl (by kernel_rfl) (by kernel_rfl) (by kernel_rfl) (by kernel_rfl) (yields_ask (.tmp 19) rfl g (i * 25) e rfl rfl (fun A hA => hA.1)) hS (fun a' ha => ?_)
      simp only [Act.put, List.setIfInBounds_toArray, List.set_cons_succ, List.set_cons_zero] at ha
      subst ha
      refine MixH.takes [false, false, false, false, true, true, true] 2 (by kernel_rfl) (by kernel_rfl) (by decide) (by kernel_rfl) hS (fun K hK => ?_)
      simp only [Mix.pick]
      repeat (go_big_quiet_step (fail))
      refine wpQuiet_nil (hK _ ?_)
      clear hK K
      refine MixH.take 1 7 _ (.agg (akC e)) rfl (by kernel_rfl) (by kernel_rfl) (by kernel_rfl) (by kernel_rfl) (yields_ask (.tmp 23) rfl g' (i * 25) e rfl rfl (fun A hA => hA.2)) hS (fun a' ha => ?_)
      simp only [Act.put, List.setIfInBounds_toArray, List.set_cons_succ, List.set_cons_zero] at ha
      subst ha
      refine MixH.take 0 8 _ (.bool false) rfl (by kernel_rfl) (by kernel_rfl) (by kernel_rfl) (by kernel_rfl) (yields_neq_ask (.tmp 20) (.tmp 24) rfl e rfl rfl rfl) hS (fun a' ha => ?_)
      simp only [Act.put, List.setIfInBounds_toArray, List.set_cons_succ, List.set_cons_zero] at ha
      subst ha
      refine MixH.done (by kernel_rfl) ?_
      clear hS
      go_wp2
      go_roundw
      case rel => exact ⟨i + 1, by first | rfl | go_num, by have := HLT.out; omega, HE⟩
      case measure => have := HLT.out; simp [intOf]; omega
    · have hni : ¬ ((i : Int) < (n : Int)) := by omega
      go_wp2
      go_ret
      exact ⟨rfl, HB.out⟩
end Go.Proofs.Ytnpipngiehohgaa
