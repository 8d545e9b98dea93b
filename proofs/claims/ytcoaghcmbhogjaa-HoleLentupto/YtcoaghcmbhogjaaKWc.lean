/-
  WBw WAsk WPutH WPool WSteps WPl0 WPl1 WPl2 MixL, one behind the other.
-/
import Derived.Test.YtcoaghcmbhogjaaWBg
import Derived.Test.YtcoaghcmbhogjaaHSg2
import Derived.Test.YtcoaghcmbhogjaaHFsQ
import Derived.Test.YtcoaghcmbhogjaaKWa
import Derived.Test.YtcoaghcmbhogjaaHOne
import Derived.Test.YtcoaghcmbhogjaaHOpen
import Derived.Test.YtcoaghcmbhogjaaMixH
namespace Go.Proofs.Ytcoaghcmbhogjaa
open Go.RowKit Go.Maps
namespace H11
theorem yields_ints {ops : Array Oper} {o : Oper} {a : Act} {S : World → Prop} (x : Operand) (ho : o.op = .load 23 x) (p : Addr) (u : Value) (hx : a.eval x = .pointer (some p)) (hw : Region.wanted o (yielded ops a.tmps) = true) (hS : ∀ w, S w → w.cell? p = some u) : YieldsIf Try.prog ops S o u a := by
  refine .inl ⟨hw, fun w hb => ?_⟩
  have hc := hS w hb
  have hu := Try.underlying23
  obtain ⟨dst, op, type, pos, after, guard⟩ := o
  simp only at ho
  subst ho
  simp only [execOp, Sem.run_bind, Sem.run_pure]
  rw [hx]
  simp [Instr.loadAt, go_sem, hc]
theorem rep_at2 (x y : Value) : ∀ (n k j : Nat), k < n → j < 2 → (rep n [x, y])[k * 2 + j]? = [x, y][j]?
  | 0, k, _, h, _ => by omega
  | n + 1, 0, j, _, hj => by
    rw [show n + 1 = 1 + n by omega, rep_add, Nat.zero_mul, Nat.zero_add, List.getElem?_append_left (by rw [rep_len]; simpa using hj)]
    rfl
  | n + 1, k + 1, j, h, hj => by
    rw [show n + 1 = 1 + n by omega, rep_add, List.getElem?_append_right (by rw [rep_len]; simp; omega), show (k + 1) * 2 + j - (rep 1 [x, y]).length = k * 2 + j by rw [rep_len]; simp; omega]
    exact rep_at2 x y n k j (by omega) hj
theorem rep_get2 (n : Nat) (x y : Value) (k : Nat) (h : k < n) : (rep n [x, y])[k * 2]? = some x := rep_at2 x y n k 0 h (by omega)
theorem rep_get2' (n : Nat) (x y : Value) (k : Nat) (h : k < n) : (rep n [x, y])[k * 2 + 1]? = some y := rep_at2 x y n k 1 h (by omega)
set_option maxRecDepth 100000 in
set_option maxHeartbeats 12800000 in
theorem bookWhole_any (w : World) (BK : Nat) (b : BV) (h : BkM w BK b) (hE : b.Mb = b.E.map (fun r => r.2.2)) (hG : b.Mg = b.G.map (fun r => r.2.2)) (hN : b.E.length ≤ 100000) (hN2 : b.G.length ≤ 100000) :
    Calls Try.prog 24 #[.pointer (some ⟨BK, 0, none⟩)] w fun r w' => r = .returned (.bool true) ∧ Below w.heap.size w w' := by
  have H : Hid (BkM w BK b) := h
  have HM : Hid (b.Mb = b.E.map (fun r => r.2.2) ∧ b.Mg = b.G.map (fun r => r.2.2)) := ⟨hE, hG⟩
  have HB : Hid (Below w.heap.size w w) := Below.refl _ _
  clear h hE hG
  go_enter Try.func24, Try.ntmps24
  go_wp2
  go_loopw [3] (fun ix wr => ∃ i : Nat, i ≤ b.E.length ∧ ix = .int .i64 (i : Int) ∧ Hid (Below w.heap.size w wr)) (fun ix _ => b.E.length - (intOf ix).toNat)
  case atStart => exact ⟨0, Nat.zero_le _, rfl, HB⟩
  case round =>
    obtain ⟨i, hi0, rfl, HB⟩ := hrel
    have hB1 := HB.out
    obtain ⟨N, hN⟩ : ∃ N, N = b.E.length := ⟨_, rfl⟩
    obtain ⟨ba, bc, hbv⟩ := owns_shape H.out.ob
    rw [← hN] at hbv
    have c0 := H.out.c0
    rw [hbv] at c0
    have hBKl := H.out.lt BK (.inl rfl)
    have y0 : wr.cell? ⟨BK, 0, none⟩ = some (.slice ba N bc) := (World.cell?_of_block (hB1.block BK hBKl)).trans c0
    by_cases hge : b.E.length ≤ i
    · have d0 : ¬ (i : Int) < (N : Int) := by omega
      clear hge hB1
      go_wp2
      go_loopw [5] (fun ix wr => ∃ i : Nat, i ≤ b.G.length ∧ ix = .int .i64 (i : Int) ∧ Hid (Below w.heap.size w wr)) (fun ix _ => b.G.length - (intOf ix).toNat)
      case atStart => exact ⟨0, Nat.zero_le _, rfl, HB⟩
      case round =>
        obtain ⟨i, hi0, rfl, HB⟩ := hrel
        have hB1 := HB.out
        obtain ⟨N, hN⟩ : ∃ N, N = b.G.length := ⟨_, rfl⟩
        obtain ⟨ba, bc, hbv⟩ := owns_shape H.out.og
        rw [← hN] at hbv
        have c0 := H.out.c1
        rw [hbv] at c0
        have hBKl := H.out.lt BK (.inl rfl)
        have y0 : wr.cell? ⟨BK, 1, none⟩ = some (.slice ba N bc) := (World.cell?_of_block (hB1.block BK hBKl)).trans c0
        by_cases hge : b.G.length ≤ i
        · have d0 : ¬ (i : Int) < (N : Int) := by omega
          clear hge hB1
          go_wp2
          go_ret
          exact ⟨rfl, HB.out⟩
        · have d0 : (i : Int) < (N : Int) := by omega
          have hx : i < b.G.length := by omega
          have hi : i + 1 ≤ b.G.length := hx
          obtain ⟨hB, rfl, hhB, ce⟩ : ∃ q, ba = some ⟨q, 0, none⟩ ∧ q < w.heap.size ∧ w.cell? ⟨q, i, none⟩ = some (b.G[i]'hx).1 := by
            have ho := H.out.og
            rw [hbv, ← hN] at ho
            rcases ho.2 with ⟨_, e2⟩ | ⟨q, cap, cur, e1, _⟩
            · omega
            · simp only [Value.slice.injEq, true_and] at e1
              obtain ⟨rfl, rfl⟩ := e1
              refine ⟨q, rfl, (ho.lt q rfl).2, ?_⟩
              rw [ho.cellAt i (by omega), List.getElem?_map, List.getElem?_eq_getElem hx]
              rfl
          have hmlen : b.Mg.length = N := by rw [HM.out.2, List.length_map, hN]
          obtain ⟨mB, mc, hmv, hmB, cme⟩ : ∃ q mc, b.hn = .slice (some ⟨q, 0, none⟩) N mc ∧ q < w.heap.size ∧ w.cell? ⟨q, i, none⟩ = some (.int .i64 (b.G[i]'hx).2.2) := by
            have ho := H.out.on
            rw [hmlen] at ho
            rcases ho.2 with ⟨_, e2⟩ | ⟨q, cap, cur, e1, _⟩
            · omega
            · rw [e1] at ho
              refine ⟨q, cap, e1, (ho.lt q rfl).2, ?_⟩
              rw [ho.cellAt i (by omega), List.getElem?_map, HM.out.2, List.getElem?_map, List.getElem?_eq_getElem hx]
              rfl
          have cm := H.out.c3
          rw [hmv] at cm
          have hent := H.out.eg _ (List.getElem_mem hx)
          unfold gOk at hent
          obtain ⟨ga, c, hgv⟩ := owns_shape hent
          obtain ⟨n, hn⟩ : ∃ n, n = (b.G[i]'hx).2.1 := ⟨_, rfl⟩
          obtain ⟨m, hm⟩ : ∃ m : Int, m = (b.G[i]'hx).2.2 := ⟨_, rfl⟩
          rw [hgv] at ce
          rw [hgv] at hent
          rw [← hn] at ce hent
          rw [← hm] at cme hent
          have hnm : (n : Int) ≤ 9223372036854775807 := by
            rcases hent.2 with ⟨_, e2⟩ | ⟨q, cap, cur, e1, _, _, e4, e5, _⟩
            · omega
            · unfold maxLen at e5; omega
          have x9 : wr.cell? ⟨hB, i, none⟩ = some (.slice ga n c) := (World.cell?_of_block (hB1.block hB hhB)).trans ce
          clear hge hgv hn hm hB1 hbv hmv hmlen x9
          as_aux_lemma =>
            have HC : Hid (∀ k, k < n → ∃ g, ga = some ⟨g, 0, none⟩ ∧ g < w.heap.size ∧ w.cell? ⟨g, k * 2, none⟩ = some (.int .i64 m) ∧ w.cell? ⟨g, k * 2 + 1, none⟩ = some (.int .i64 m)) := by
              intro k hk
              have he := hent
              rcases he.2 with ⟨_, e2⟩ | ⟨g, cap, cur, e1, _⟩
              · omega
              · simp only [Value.slice.injEq, true_and] at e1
                obtain ⟨rfl, rfl⟩ := e1
                refine ⟨g, rfl, (he.lt g rfl).2, ?_⟩
                have g0 := he.cellAt (k * 2) (by omega)
                have g1 := he.cellAt (k * 2 + 1) (by omega)
                rw [rep_get2 n _ _ k hk] at g0
                rw [rep_get2' n _ _ k hk] at g1
                exact ⟨g0, g1⟩
            clear hent
            go_wp2
            go_loopw [6] (fun kx wr => ∃ k : Nat, k ≤ n ∧ kx = .int .i64 (k : Int) ∧ Hid (Below w.heap.size w wr)) (fun kx _ => n - (intOf kx).toNat)
            case atStart => exact ⟨0, Nat.zero_le _, rfl, HB⟩
            case round =>
              obtain ⟨k, hk, rfl, HB2⟩ := hrel
              clear HB
              have hB2 := HB2.out
              have x0 : wr.cell? ⟨BK, 1, none⟩ = some (.slice (some ⟨hB, 0, none⟩) N bc) := (World.cell?_of_block (hB2.block BK hBKl)).trans c0
              have x1 : wr.cell? ⟨hB, i, none⟩ = some (.slice ga n c) := (World.cell?_of_block (hB2.block hB hhB)).trans ce
              by_cases hge : n ≤ k
              · obtain rfl : k = n := by omega
                have d1 : ¬ (k : Int) < (k : Int) := by omega
                clear hge hB2
                go_wp2
                go_roundw
                case rel => exact ⟨i + 1, hi, by go_num, HB2⟩
                case measure => simp [intOf]; omega
              · have d1 : (k : Int) < (n : Int) := by omega
                obtain ⟨g, hga, hgl, hcc⟩ := HC.out k (by omega)
                subst hga
                have hkn : k + 1 ≤ n := by omega
                clear hge
                go_upto_region 15 with fail
                refine MixH.start (fun A => A.cell? ⟨BK, 1, none⟩ = some (.slice (some ⟨hB, 0, none⟩) N bc) ∧ A.cell? ⟨hB, i, none⟩ = some (.slice (some ⟨g, 0, none⟩) n c) ∧ (A.cell? ⟨g, k * 2, none⟩ = some (.int .i64 m) ∧ A.cell? ⟨g, k * 2 + 1, none⟩ = some (.int .i64 m)) ∧ A.cell? ⟨BK, 3, none⟩ = some (.slice (some ⟨mB, 0, none⟩) N mc) ∧ A.cell? ⟨mB, i, none⟩ = some (.int .i64 m)) (by kernel_rfl) ?_
                obtain ⟨wA, hwA⟩ : ∃ wA, wA = wr.drew := ⟨_, rfl⟩
                have hBA : Below w.heap.size w wA := by rw [hwA]; exact drew_below hB2
                have hS : wA.cell? ⟨BK, 1, none⟩ = some (.slice (some ⟨hB, 0, none⟩) N bc) ∧ wA.cell? ⟨hB, i, none⟩ = some (.slice (some ⟨g, 0, none⟩) n c) ∧ (wA.cell? ⟨g, k * 2, none⟩ = some (.int .i64 m) ∧ wA.cell? ⟨g, k * 2 + 1, none⟩ = some (.int .i64 m)) ∧ wA.cell? ⟨BK, 3, none⟩ = some (.slice (some ⟨mB, 0, none⟩) N mc) ∧ wA.cell? ⟨mB, i, none⟩ = some (.int .i64 m) := ⟨(World.cell?_of_block (hBA.block BK hBKl)).trans c0, (World.cell?_of_block (hBA.block hB hhB)).trans ce, ⟨(World.cell?_of_block (hBA.block g hgl)).trans hcc.1, (World.cell?_of_block (hBA.block g hgl)).trans hcc.2⟩, (World.cell?_of_block (hBA.block BK hBKl)).trans cm, (World.cell?_of_block (hBA.block mB hmB)).trans cme⟩
                have HBA : Hid (Below w.heap.size w wA) := hBA
                rw [← hwA]
                clear hwA hBA hB2 HB2 x0 x1 hcc
                refine MixH.takes [true, true, true] 23 (by kernel_rfl) (by kernel_rfl) (by decide) (by kernel_rfl) hS (fun K hK => ?_)
                simp only [Mix.pick]
                repeat (go_big_quiet_step (fail))
                refine wpQuiet_nil (hK _ ?_)
                clear hK K
                refine MixH.take 22 3 _ (.slice (some ⟨hB, 0, none⟩) N bc) rfl (by kernel_rfl) (by kernel_rfl) (by kernel_rfl) (by kernel_rfl) (yields_hdrG (.tmp 69) rfl ⟨BK, 1, none⟩ _ rfl rfl (fun A hA => hA.1)) hS (fun a' ha => ?_)
                simp only [Act.put, List.setIfInBounds_toArray, List.set_cons_succ, List.set_cons_zero] at ha
                subst ha
                refine MixH.takes [false, false, false, false, true, true] 20 (by kernel_rfl) (by kernel_rfl) (by decide) (by kernel_rfl) hS (fun K hK => ?_)
                simp only [Mix.pick]
                repeat (go_big_quiet_step (fail))
                refine wpQuiet_nil (hK _ ?_)
                clear hK K
                refine MixH.take 19 6 _ (.slice (some ⟨g, 0, none⟩) n c) rfl (by kernel_rfl) (by kernel_rfl) (by kernel_rfl) (by kernel_rfl) (yields_gaps (.tmp 72) rfl ⟨hB, i, none⟩ _ rfl rfl (fun A hA => hA.2.1)) hS (fun a' ha => ?_)
                simp only [Act.put, List.setIfInBounds_toArray, List.set_cons_succ, List.set_cons_zero] at ha
                subst ha
                refine MixH.takes [false, false, false, false, false, false, false, true, true] 17 (by kernel_rfl) (by kernel_rfl) (by decide) (by kernel_rfl) hS (fun K hK => ?_)
                simp only [Mix.pick]
                repeat (go_big_quiet_step (fail))
                refine wpQuiet_nil (hK _ ?_)
                clear hK K
                refine MixH.take 16 9 _ (.agg #[.int .i64 m, .int .i64 m]) rfl (by kernel_rfl) (by kernel_rfl) (by kernel_rfl) (by kernel_rfl) (yields_gap (.tmp 75) rfl g (k * 2) m m rfl rfl (fun A hA => hA.2.2.1)) hS (fun a' ha => ?_)
                simp only [Act.put, List.setIfInBounds_toArray, List.set_cons_succ, List.set_cons_zero] at ha
                subst ha
                refine MixH.takes [false, false, false, false, false, false, false, false, false, false, true, true, true] 13 (by kernel_rfl) (by kernel_rfl) (by decide) (by kernel_rfl) hS (fun K hK => ?_)
                simp only [Mix.pick]
                repeat (go_big_quiet_step (fail))
                refine wpQuiet_nil (hK _ ?_)
                clear hK K
                refine MixH.take 12 13 _ (.slice (some ⟨mB, 0, none⟩) N mc) rfl (by kernel_rfl) (by kernel_rfl) (by kernel_rfl) (by kernel_rfl) (yields_ints (.tmp 79) rfl ⟨BK, 3, none⟩ _ rfl rfl (fun A hA => hA.2.2.2.1)) hS (fun a' ha => ?_)
                simp only [Act.put, List.setIfInBounds_toArray, List.set_cons_succ, List.set_cons_zero] at ha
                subst ha
                refine MixH.takes [false, false, false, false, false, false, false, false, false, false, false, false, false, false, true, true] 10 (by kernel_rfl) (by kernel_rfl) (by decide) (by kernel_rfl) hS (fun K hK => ?_)
                simp only [Mix.pick]
                repeat (go_big_quiet_step (fail))
                refine wpQuiet_nil (hK _ ?_)
                clear hK K
                refine MixH.take 9 16 _ (.int .i64 m) rfl (by kernel_rfl) (by kernel_rfl) (by kernel_rfl) (by kernel_rfl) (yields_int (.tmp 82) rfl ⟨mB, i, none⟩ _ rfl rfl (fun A hA => hA.2.2.2.2)) hS (fun a' ha => ?_)
                simp only [Act.put, List.setIfInBounds_toArray, List.set_cons_succ, List.set_cons_zero] at ha
                subst ha
                refine MixH.takes [false, false, false, false, false, false, false, false, false, false, false, false, false, false, false, false, false, true, true, true] 6 (by kernel_rfl) (by kernel_rfl) (by decide) (by kernel_rfl) hS (fun K hK => ?_)
                simp only [Mix.pick]
                repeat (go_big_quiet_step (fail))
                refine wpQuiet_nil (hK _ ?_)
                clear hK K
                refine MixH.take 5 20 _ (.slice (some ⟨mB, 0, none⟩) N mc) rfl (by kernel_rfl) (by kernel_rfl) (by kernel_rfl) (by kernel_rfl) (yields_ints (.tmp 86) rfl ⟨BK, 3, none⟩ _ rfl rfl (fun A hA => hA.2.2.2.1)) hS (fun a' ha => ?_)
                simp only [Act.put, List.setIfInBounds_toArray, List.set_cons_succ, List.set_cons_zero] at ha
                subst ha
                refine MixH.takes [false, false, false, false, false, false, false, false, false, false, false, false, false, false, false, false, false, false, false, false, false, true, true] 3 (by kernel_rfl) (by kernel_rfl) (by decide) (by kernel_rfl) hS (fun K hK => ?_)
                simp only [Mix.pick]
                repeat (go_big_quiet_step (fail))
                refine wpQuiet_nil (hK _ ?_)
                clear hK K
                refine MixH.take 2 23 _ (.int .i64 m) rfl (by kernel_rfl) (by kernel_rfl) (by kernel_rfl) (by kernel_rfl) (yields_int (.tmp 89) rfl ⟨mB, i, none⟩ _ rfl rfl (fun A hA => hA.2.2.2.2)) hS (fun a' ha => ?_)
                simp only [Act.put, List.setIfInBounds_toArray, List.set_cons_succ, List.set_cons_zero] at ha
                subst ha
                refine MixH.takes [false, false, false, false, false, false, false, false, false, false, false, false, false, false, false, false, false, false, false, false, false, false, false, false, true] 1 (by kernel_rfl) (by kernel_rfl) (by decide) (by kernel_rfl) hS (fun K hK => ?_)
                simp only [Mix.pick]
                repeat (go_big_quiet_step (fail))
                refine wpQuiet_nil (hK _ ?_)
                clear hK K
                refine MixH.take 0 25 _ (.bool false) rfl (by kernel_rfl) (by kernel_rfl) (by kernel_rfl) (by kernel_rfl) (yields_neq_same (.tmp 76) (.tmp 91) rfl m m rfl rfl rfl) hS (fun a' ha => ?_)
                simp only [Act.put, List.setIfInBounds_toArray, List.set_cons_succ, List.set_cons_zero] at ha
                subst ha
                refine MixH.done (by kernel_rfl) ?_
                clear hS
                go_wp2
                go_roundw
                case rel => exact ⟨k + 1, hkn, by go_num, HBA⟩
                case measure => simp [intOf]; omega
    · have d0 : (i : Int) < (N : Int) := by omega
      have hx : i < b.E.length := by omega
      have hi : i + 1 ≤ b.E.length := hx
      obtain ⟨hB, rfl, hhB, ce⟩ : ∃ q, ba = some ⟨q, 0, none⟩ ∧ q < w.heap.size ∧ w.cell? ⟨q, i, none⟩ = some (b.E[i]'hx).1 := by
        have ho := H.out.ob
        rw [hbv, ← hN] at ho
        rcases ho.2 with ⟨_, e2⟩ | ⟨q, cap, cur, e1, _⟩
        · omega
        · simp only [Value.slice.injEq, true_and] at e1
          obtain ⟨rfl, rfl⟩ := e1
          refine ⟨q, rfl, (ho.lt q rfl).2, ?_⟩
          rw [ho.cellAt i (by omega), List.getElem?_map, List.getElem?_eq_getElem hx]
          rfl
      have hmlen : b.Mb.length = N := by rw [HM.out.1, List.length_map, hN]
      obtain ⟨mB, mc, hmv, hmB, cme⟩ : ∃ q mc, b.hm = .slice (some ⟨q, 0, none⟩) N mc ∧ q < w.heap.size ∧ w.cell? ⟨q, i, none⟩ = some (.int .u8 ((b.E[i]'hx).2.2 : Int)) := by
        have ho := H.out.om
        rw [hmlen] at ho
        rcases ho.2 with ⟨_, e2⟩ | ⟨q, cap, cur, e1, _⟩
        · omega
        · rw [e1] at ho
          refine ⟨q, cap, e1, (ho.lt q rfl).2, ?_⟩
          rw [ho.cellAt i (by omega), List.getElem?_map, HM.out.1, List.getElem?_map, List.getElem?_eq_getElem hx]
          rfl
      have cm := H.out.c2
      rw [hmv] at cm
      have hent := H.out.eb _ (List.getElem_mem hx)
      unfold eOk at hent
      obtain ⟨ga, c, hgv⟩ := owns_shape hent
      obtain ⟨n, hn⟩ : ∃ n, n = (b.E[i]'hx).2.1 := ⟨_, rfl⟩
      obtain ⟨m, hm⟩ : ∃ m : Nat, m = (b.E[i]'hx).2.2 := ⟨_, rfl⟩
      rw [hgv] at ce
      rw [hgv] at hent
      rw [← hn] at ce hent
      rw [← hm] at cme hent
      have hnm : (n : Int) ≤ 9223372036854775807 := by
        rcases hent.2 with ⟨_, e2⟩ | ⟨q, cap, cur, e1, _, _, e4, e5, _⟩
        · omega
        · unfold maxLen at e5; omega
      have x9 : wr.cell? ⟨hB, i, none⟩ = some (.slice ga n c) := (World.cell?_of_block (hB1.block hB hhB)).trans ce
      clear hge hgv hn hm hB1 hbv hmv hmlen x9
      as_aux_lemma =>
        have HC : Hid (∀ k, k < n → ∃ g, ga = some ⟨g, 0, none⟩ ∧ g < w.heap.size ∧ w.cell? ⟨g, k, none⟩ = some (.int .u8 (m : Int))) := by
          intro k hk
          have he := hent
          rcases he.2 with ⟨_, e2⟩ | ⟨g, cap, cur, e1, _⟩
          · omega
          · simp only [Value.slice.injEq, true_and] at e1
            obtain ⟨rfl, rfl⟩ := e1
            refine ⟨g, rfl, (he.lt g rfl).2, ?_⟩
            have g0 := he.cellAt k (by omega)
            rw [rep_get n _ k hk] at g0
            exact g0
        clear hent
        go_wp2
        go_loopw [4] (fun kx wr => ∃ k : Nat, k ≤ n ∧ kx = .int .i64 (k : Int) ∧ Hid (Below w.heap.size w wr)) (fun kx _ => n - (intOf kx).toNat)
        case atStart => exact ⟨0, Nat.zero_le _, rfl, HB⟩
        case round =>
          obtain ⟨k, hk, rfl, HB2⟩ := hrel
          clear HB
          have hB2 := HB2.out
          have x0 : wr.cell? ⟨BK, 0, none⟩ = some (.slice (some ⟨hB, 0, none⟩) N bc) := (World.cell?_of_block (hB2.block BK hBKl)).trans c0
          have x1 : wr.cell? ⟨hB, i, none⟩ = some (.slice ga n c) := (World.cell?_of_block (hB2.block hB hhB)).trans ce
          by_cases hge : n ≤ k
          · obtain rfl : k = n := by omega
            have d1 : ¬ (k : Int) < (k : Int) := by omega
            clear hge hB2
            go_wp2
            go_roundw
            case rel => exact ⟨i + 1, hi, by go_num, HB2⟩
            case measure => simp [intOf]; omega
          · have d1 : (k : Int) < (n : Int) := by omega
            obtain ⟨g, hga, hgl, hcc⟩ := HC.out k (by omega)
            subst hga
            have hkn : k + 1 ≤ n := by omega
            clear hge
            go_upto_region 7 with fail
            refine MixH.start (fun A => A.cell? ⟨BK, 0, none⟩ = some (.slice (some ⟨hB, 0, none⟩) N bc) ∧ A.cell? ⟨hB, i, none⟩ = some (.slice (some ⟨g, 0, none⟩) n c) ∧ A.cell? ⟨g, k, none⟩ = some (.int .u8 (m : Int)) ∧ A.cell? ⟨BK, 2, none⟩ = some (.slice (some ⟨mB, 0, none⟩) N mc) ∧ A.cell? ⟨mB, i, none⟩ = some (.int .u8 (m : Int))) (by kernel_rfl) ?_
            obtain ⟨wA, hwA⟩ : ∃ wA, wA = wr.drew := ⟨_, rfl⟩
            have hBA : Below w.heap.size w wA := by rw [hwA]; exact drew_below hB2
            have hS : wA.cell? ⟨BK, 0, none⟩ = some (.slice (some ⟨hB, 0, none⟩) N bc) ∧ wA.cell? ⟨hB, i, none⟩ = some (.slice (some ⟨g, 0, none⟩) n c) ∧ wA.cell? ⟨g, k, none⟩ = some (.int .u8 (m : Int)) ∧ wA.cell? ⟨BK, 2, none⟩ = some (.slice (some ⟨mB, 0, none⟩) N mc) ∧ wA.cell? ⟨mB, i, none⟩ = some (.int .u8 (m : Int)) := ⟨(World.cell?_of_block (hBA.block BK hBKl)).trans c0, (World.cell?_of_block (hBA.block hB hhB)).trans ce, (World.cell?_of_block (hBA.block g hgl)).trans hcc, (World.cell?_of_block (hBA.block BK hBKl)).trans cm, (World.cell?_of_block (hBA.block mB hmB)).trans cme⟩
            have HBA : Hid (Below w.heap.size w wA) := hBA
            rw [← hwA]
            clear hwA hBA hB2 HB2 x0 x1 hcc
            refine MixH.takes [true, true, true] 15 (by kernel_rfl) (by kernel_rfl) (by decide) (by kernel_rfl) hS (fun K hK => ?_)
            simp only [Mix.pick]
            repeat (go_big_quiet_step (fail))
            refine wpQuiet_nil (hK _ ?_)
            clear hK K
            refine MixH.take 14 3 _ (.slice (some ⟨hB, 0, none⟩) N bc) rfl (by kernel_rfl) (by kernel_rfl) (by kernel_rfl) (by kernel_rfl) (yields_hdr (.tmp 30) rfl ⟨BK, 0, none⟩ _ rfl rfl (fun A hA => hA.1)) hS (fun a' ha => ?_)
            simp only [Act.put, List.setIfInBounds_toArray, List.set_cons_succ, List.set_cons_zero] at ha
            subst ha
            refine MixH.takes [false, false, false, false, true, true] 12 (by kernel_rfl) (by kernel_rfl) (by decide) (by kernel_rfl) hS (fun K hK => ?_)
            simp only [Mix.pick]
            repeat (go_big_quiet_step (fail))
            refine wpQuiet_nil (hK _ ?_)
            clear hK K
            refine MixH.take 11 6 _ (.slice (some ⟨g, 0, none⟩) n c) rfl (by kernel_rfl) (by kernel_rfl) (by kernel_rfl) (by kernel_rfl) (yields_bytes (.tmp 33) rfl ⟨hB, i, none⟩ _ rfl rfl (fun A hA => hA.2.1)) hS (fun a' ha => ?_)
            simp only [Act.put, List.setIfInBounds_toArray, List.set_cons_succ, List.set_cons_zero] at ha
            subst ha
            refine MixH.takes [false, false, false, false, false, false, false, true, true] 9 (by kernel_rfl) (by kernel_rfl) (by decide) (by kernel_rfl) hS (fun K hK => ?_)
            simp only [Mix.pick]
            repeat (go_big_quiet_step (fail))
            refine wpQuiet_nil (hK _ ?_)
            clear hK K
            refine MixH.take 8 9 _ (.int .u8 (m : Int)) rfl (by kernel_rfl) (by kernel_rfl) (by kernel_rfl) (by kernel_rfl) (yields_u8 (.tmp 36) rfl ⟨g, k, none⟩ _ rfl rfl (fun A hA => hA.2.2.1)) hS (fun a' ha => ?_)
            simp only [Act.put, List.setIfInBounds_toArray, List.set_cons_succ, List.set_cons_zero] at ha
            subst ha
            refine MixH.takes [false, false, false, false, false, false, false, false, false, false, true, true, true] 5 (by kernel_rfl) (by kernel_rfl) (by decide) (by kernel_rfl) hS (fun K hK => ?_)
            simp only [Mix.pick]
            repeat (go_big_quiet_step (fail))
            refine wpQuiet_nil (hK _ ?_)
            clear hK K
            refine MixH.take 4 13 _ (.slice (some ⟨mB, 0, none⟩) N mc) rfl (by kernel_rfl) (by kernel_rfl) (by kernel_rfl) (by kernel_rfl) (yields_bytes (.tmp 40) rfl ⟨BK, 2, none⟩ _ rfl rfl (fun A hA => hA.2.2.2.1)) hS (fun a' ha => ?_)
            simp only [Act.put, List.setIfInBounds_toArray, List.set_cons_succ, List.set_cons_zero] at ha
            subst ha
            refine MixH.takes [false, false, false, false, false, false, false, false, false, false, false, false, false, false, true, true] 2 (by kernel_rfl) (by kernel_rfl) (by decide) (by kernel_rfl) hS (fun K hK => ?_)
            simp only [Mix.pick]
            repeat (go_big_quiet_step (fail))
            refine wpQuiet_nil (hK _ ?_)
            clear hK K
            refine MixH.take 1 16 _ (.int .u8 (m : Int)) rfl (by kernel_rfl) (by kernel_rfl) (by kernel_rfl) (by kernel_rfl) (yields_u8 (.tmp 43) rfl ⟨mB, i, none⟩ _ rfl rfl (fun A hA => hA.2.2.2.2)) hS (fun a' ha => ?_)
            simp only [Act.put, List.setIfInBounds_toArray, List.set_cons_succ, List.set_cons_zero] at ha
            subst ha
            refine MixH.takes [false, false, false, false, false, false, false, false, false, false, false, false, false, false, false, false, false, true] 0 (by kernel_rfl) (by kernel_rfl) (by decide) (by kernel_rfl) hS (fun K hK => ?_)
            simp only [Mix.pick]
            repeat (go_big_quiet_step (fail))
            refine wpQuiet_nil (hK _ ?_)
            clear hK K
            refine MixH.done (by kernel_rfl) ?_
            clear hS
            go_wp2
            go_roundw
            case rel => exact ⟨k + 1, hkn, by go_num, HBA⟩
            case measure => simp [intOf]; omega
end H11
end Go.Proofs.Ytcoaghcmbhogjaa
namespace Go.Proofs.Ytcoaghcmbhogjaa
open Go.RowKit Go.Maps
namespace H11
theorem yields_pH {ops : Array Oper} {o : Oper} {a : Act} {S : World → Prop} (x : Operand) (ho : o.op = .load 27 x) (p : Addr) (u : Value) (hx : a.eval x = .pointer (some p)) (hw : Region.wanted o (yielded ops a.tmps) = true) (hS : ∀ w, S w → w.cell? p = some u) : YieldsIf Try.prog ops S o u a := by
  refine .inl ⟨hw, fun w hb => ?_⟩
  have hc := hS w hb
  have hu := Try.underlying27
  obtain ⟨dst, op, type, pos, after, guard⟩ := o
  simp only at ho
  subst ho
  simp only [execOp, Sem.run_bind, Sem.run_pure]
  rw [hx]
  simp [Instr.loadAt, go_sem, hc]
theorem yields_pR {ops : Array Oper} {o : Oper} {a : Act} {S : World → Prop} (x : Operand) (ho : o.op = .load 54 x) (p : Addr) (u : Value) (hx : a.eval x = .pointer (some p)) (hw : Region.wanted o (yielded ops a.tmps) = true) (hS : ∀ w, S w → w.cell? p = some u) : YieldsIf Try.prog ops S o u a := by
  refine .inl ⟨hw, fun w hb => ?_⟩
  have hc := hS w hb
  have hu := Try.underlying54
  obtain ⟨dst, op, type, pos, after, guard⟩ := o
  simp only at ho
  subst ho
  simp only [execOp, Sem.run_bind, Sem.run_pure]
  rw [hx]
  simp [Instr.loadAt, go_sem, hc]
def s_len (s : HS) : Prop := s.gp.length ≤ 65535 ∧ s.bs.length ≤ 65535
theorem s_len_of {s : HS} (h : Inv s) : s_len s := by
  have h1 := h.ris.len
  have h2 := (HS.bd_le h).1
  have h3 := h.bl
  exact ⟨by omega, by omega⟩
/-- what a call leaves of the book -/
def BkE (w : World) (BK : Nat) (b : BV) (w' : World) : Prop :=
  ∃ b', BkM w' BK b' ∧ b'.Mb = b'.E.map (fun r => r.2.2) ∧ b'.Mg = b'.G.map (fun r => r.2.2) ∧ b'.E.length ≤ b.E.length + 4 ∧ b'.G.length ≤ b.G.length + 4 ∧ (∀ x, BB BK b' x → BB BK b x ∨ w.heap.size ≤ x) ∧ Ch (BB BK b) w w'
theorem BkE.of {w w1 w2 : World} {BK : Nat} {b : BV} {own : Nat → Prop} (hb : Below w.heap.size w w1) (d : BkD w1 BK b own w2) (ho : ∀ x, own x → w.heap.size ≤ x) : BkE w BK b w2 := by
  obtain ⟨b', d1, d2, d3, d4, d5, d6, d7⟩ := d
  refine ⟨b', d1, d2, d3, d4, d5, ?_, ?_⟩
  · intro x hx
    rcases d6 x hx with k | k | k
    · exact .inl k
    · exact .inr (ho x k)
    · exact .inr (Nat.le_trans hb.size k)
  · refine (Ch.ofBelow (S := BB BK b) hb).trans d7 (fun x hx k => ?_)
    rcases k with k | k
    · exact k
    · have := ho x k; omega
theorem BkE.same {w w1 : World} {BK : Nat} {b : BV} (h : BkM w BK b) (hE : b.Mb = b.E.map (fun r => r.2.2)) (hG : b.Mg = b.G.map (fun r => r.2.2)) (hb : Below w.heap.size w w1) : BkE w BK b w1 :=
  ⟨b, h.below hb, hE, hG, Nat.le_add_right _ _, Nat.le_add_right _ _, fun _ hx => .inl hx, Ch.ofBelow hb⟩
theorem one_box (w : World) (C : Array Value) : ∃ W : World, W = w.alloc (.cells C 56) ∧ PrAt W w.heap.size C ∧ Below w.heap.size w W := ⟨_, rfl, PrAt_new _ _, (Below.refl _ _).alloc (Nat.le_refl _) _⟩
set_option maxRecDepth 100000 in
set_option maxHeartbeats 12800000 in
theorem asked_any (w : World) (e : Ent) (he : EOk w e) (kind : Int) (BK : Nat) (b : BV) (hk : BkM w BK b) (hE : b.Mb = b.E.map (fun r => r.2.2)) (hG : b.Mg = b.G.map (fun r => r.2.2)) (hN : b.E.length ≤ 100000) (hN2 : b.G.length ≤ 100000) :
    Calls Try.prog 23 #[pv e, .int .i64 kind, .pointer (some ⟨BK, 0, none⟩)] w fun r w' => r = .returned (.bool true) ∧ BkE w BK b w' := by
  unfold pv
  obtain ⟨W, hW, hp, hbW⟩ := one_box w #[.pointer (some ⟨e.H, 0, none⟩), .pointer (some ⟨e.R, 0, none⟩)]
  obtain ⟨B, hB⟩ : ∃ B, B = w.heap.size := ⟨_, rfl⟩
  rw [← hB] at hp
  have q0 : W.cell? ⟨B, 0, none⟩ = some (.pointer (some ⟨e.H, 0, none⟩)) := (hp.cell 0).trans rfl
  have q1 : W.cell? ⟨B, 1, none⟩ = some (.pointer (some ⟨e.R, 0, none⟩)) := (hp.cell 1).trans rfl
  have hBW := hp.lt
  have HW : Hid (w.alloc (.cells #[.pointer (some ⟨e.H, 0, none⟩), .pointer (some ⟨e.R, 0, none⟩)] 56) = W ∧ w.heap.size = B) := ⟨hW.symm, hB.symm⟩
  have HA : Hid (EOk W e ∧ Below w.heap.size w W) := ⟨he.below hbW, hbW⟩
  have HI : Hid (Inv e.s ∧ s_len e.s) := ⟨he.inv, s_len_of he.inv⟩
  have HK : Hid (BkM w BK b ∧ b.Mb = b.E.map (fun r => r.2.2) ∧ b.Mg = b.G.map (fun r => r.2.2) ∧ b.E.length ≤ 100000 ∧ b.G.length ≤ 100000) := ⟨hk, hE, hG, hN, hN2⟩
  clear hW hB hp hbW he hk hE hG hN hN2
  by_cases k2 : kind = 2
  · subst k2
    as_aux_lemma =>
      obtain ⟨G, hG⟩ : ∃ G, G = e.s.gp.length := ⟨_, rfl⟩
      have hG5 : G ≤ 65535 := by rw [hG]; exact HI.out.2.1
      have HGG : Hid (G = e.s.gp.length) := hG
      have QG : Hid (∀ A : World, EOk A e → Calls Try.prog 17 #[.pointer (some ⟨e.H, 0, none⟩)] A fun r w' => ∃ ga gc, r = .returned (.slice ga G gc) ∧ w'.ownsRow A.heap.size 45 2 (.slice ga G gc) G (gC e.s.gp) ∧ Below A.heap.size A w') := by
        intro A hA
        refine (gaps_any A e.H e.s e.v hA.h HI.out.2.1).mono ?_
        rintro r w' ⟨u, rfl, h1, h2⟩
        obtain ⟨ga, gc, rfl⟩ := owns_shape h1
        rw [← hG] at h1 ⊢
        exact ⟨ga, gc, rfl, h1, h2⟩
      have QR : Hid (∀ A : World, EOk A e → Calls Try.prog 29 #[.pointer (some ⟨e.R, 0, none⟩)] A fun r w' => ∃ ga gc, r = .returned (.slice ga G gc) ∧ w'.ownsRow A.heap.size 45 2 (.slice ga G gc) G (gC e.s.gp) ∧ Below A.heap.size A w') := by
        intro A hA
        refine (gapsR_any A e.R e.s e.u hA.r HI.out.1).mono ?_
        rintro r w' ⟨u, rfl, h1, h2⟩
        obtain ⟨ga, gc, rfl⟩ := owns_shape h1
        rw [← hG] at h1 ⊢
        exact ⟨ga, gc, rfl, h1, h2⟩
      clear hG
      go_enter Try.func23, Try.ntmps23
      go_upto_region 1 with fail
      rw [HW.out.1, HW.out.2]
      go_wp2_with fail
      refine Calls.mono (QG.out _ HA.out.1) ?_
      rintro e1 w1 ⟨ga, gc, rfl, ho1, hb1⟩
      have H1 : Hid (EOk w1 e ∧ Below w.heap.size w w1 ∧ w1.ownsRow W.heap.size 45 2 (.slice ga G gc) G (gC e.s.gp)) := ⟨HA.out.1.below hb1, HA.out.2.trans (hb1.mono HA.out.2.size), ho1⟩
      have x1 := (World.cell?_of_block (hb1.block B hBW)).trans q1
      have hB1 := Nat.lt_of_lt_of_le hBW hb1.size
      clear ho1 hb1 QG
      go_wp2_with fail
      refine Calls.mono (QR.out _ H1.out.1) ?_
      rintro e2 w2 ⟨ga2, gc2, rfl, ho2, hb2⟩
      have H2 : Hid (Below w.heap.size w w2 ∧ w2.ownsRow W.heap.size 45 2 (.slice ga G gc) G (gC e.s.gp) ∧ w2.ownsRow w1.heap.size 45 2 (.slice ga2 G gc2) G (gC e.s.gp)) := ⟨H1.out.2.1.trans (hb2.mono H1.out.2.1.size), (Ch.ofBelow (S := fun _ => False) hb2).owns H1.out.2.2 (fun _ _ => id), ho2⟩
      have QS : Hid _ := sameG_any w2 ga ga2 G gc gc2 W.heap.size w1.heap.size e.s.gp HGG.out.symm hG5 H2.out.2.1 H2.out.2.2
      clear ho2 hb2 QR x1 H1
      go_wp2_with fail
      refine Calls.mono QS.out ?_
      rintro e3 w3 ⟨rfl, hb3⟩
      have H3 : Hid (Below w.heap.size w w3 ∧ w3.ownsRow W.heap.size 45 2 (.slice ga G gc) G (gC e.s.gp)) := ⟨H2.out.1.trans (hb3.mono H2.out.1.size), (Ch.ofBelow (S := fun _ => False) hb3).owns H2.out.2.1 (fun _ _ => id)⟩
      have HWs : Hid (w.heap.size ≤ W.heap.size) := HA.out.2.size
      have QB : Hid _ := bookGaps_any w3 BK b (HK.out.1.below H3.out.1) HK.out.2.1 HK.out.2.2.1 ga gc G (gC e.s.gp) (owns_mono H3.out.2 (Nat.zero_le _)) hG5 HK.out.2.2.2.2 (fun q hq z => by have h1 := (H3.out.2.lt q hq).1; have h2 := HK.out.1.lt q z; have h3 := HWs.out; omega)
      clear hb3 QS H2
      go_wp2_with fail
      refine Calls.mono QB.out ?_
      rintro e4 w4 ⟨rfl, hd⟩
      have HD : Hid (BkE w BK b w4) := BkE.of H3.out.1 hd (fun x hx => Nat.le_trans HWs.out (H3.out.2.lt x hx).1)
      clear hd QB
      go_wp2
      go_ret
      exact ⟨rfl, HD.out⟩
  · have n2 : (kind == 2) = false := by rw [beq_eq_false_iff_ne]; exact k2
    by_cases k3 : kind = 3
    · subst k3
      as_aux_lemma =>
        have QT : Hid (∀ A : World, EOk A e → _) := fun A hA => total_any A e.H e.s e.v hA.h
        have QT2 : Hid (∀ A : World, EOk A e → _) := fun A hA => totalR_any A e.R e.s e.u hA.r
        have QW : Hid (∀ A : World, EOk A e → _) := fun A hA => whole_any A e.H e.s e.v hA.h
        have QW2 : Hid (∀ A : World, EOk A e → _) := fun A hA => wholeR_any A e.R e.s e.u hA.r HI.out.1
        have QH : Hid (∀ A : World, EOk A e → _) := fun A hA => held_any A e.H e.s e.v hA.h HI.out.1
        have QH2 : Hid (∀ A : World, EOk A e → _) := fun A hA => heldR_any A e.R e.s e.u hA.r HI.out.1
        obtain ⟨EN, hEN⟩ : ∃ EN : Int, EN = (e.s.en : Int) := ⟨_, rfl⟩
        obtain ⟨KN, hKN⟩ : ∃ KN : Bool, KN = decide (0 < e.s.en) := ⟨_, rfl⟩
        obtain ⟨WH, hWH⟩ : ∃ WH : Bool, WH = decide (0 < e.s.en ∧ e.s.gp = []) := ⟨_, rfl⟩
        obtain ⟨HE, hHE⟩ : ∃ HE : Int, HE = (e.s.bd : Int) - (sm e.s.gp : Int) := ⟨_, rfl⟩
        rw [← hEN, ← hKN] at QT QT2
        rw [← hWH] at QW QW2
        rw [← hHE] at QH QH2
        have f1 : (EN == EN) = true := by simp
        have f2 : (KN == KN) = true := by simp
        have f3 : (WH == WH) = true := by simp
        have f4 : (HE == HE) = true := by simp
        clear hEN hKN hWH hHE
        go_enter Try.func23, Try.ntmps23
        go_upto_region 1 with fail
        rw [HW.out.1, HW.out.2]
        go_wp2_with fail
        refine Calls.mono (QT.out _ HA.out.1) ?_
        rintro e1 w1 ⟨rfl, hb1⟩
        have H1 : Hid (EOk w1 e ∧ Below w.heap.size w w1) := ⟨HA.out.1.below hb1, HA.out.2.trans (hb1.mono HA.out.2.size)⟩
        have x0 := (World.cell?_of_block (hb1.block B hBW)).trans q0
        have x1 := (World.cell?_of_block (hb1.block B hBW)).trans q1
        clear hb1 QT HA q0 q1 hBW
        go_wp2_with fail
        refine Calls.mono (QT2.out _ H1.out.1) ?_
        rintro e2 w2 ⟨rfl, rfl⟩
        clear QT2
        go_upto_region 10 with fail
        refine MixH.start (fun A => A.cell? ⟨B, 0, none⟩ = some (.pointer (some ⟨e.H, 0, none⟩)) ∧ A.cell? ⟨B, 1, none⟩ = some (.pointer (some ⟨e.R, 0, none⟩))) (by kernel_rfl) ?_
        obtain ⟨wA, hwA⟩ : ∃ wA, wA = w1.drew := ⟨_, rfl⟩
        have hS : wA.cell? ⟨B, 0, none⟩ = some (.pointer (some ⟨e.H, 0, none⟩)) ∧ wA.cell? ⟨B, 1, none⟩ = some (.pointer (some ⟨e.R, 0, none⟩)) := by rw [hwA]; exact ⟨x0, x1⟩
        have hbA : Below w1.heap.size w1 w1.drew := drew_below (Below.refl _ _)
        have HA : Hid (EOk wA e ∧ Below w.heap.size w wA) := by rw [hwA]; exact ⟨H1.out.1.below hbA, H1.out.2.trans (hbA.mono H1.out.2.size)⟩
        rw [← hwA]
        clear hwA hbA x0 x1 H1
        refine MixH.takes [true, true, true, true, true, true, true, true, true, true] 17 (by kernel_rfl) (by kernel_rfl) (by decide) (by kernel_rfl) hS (fun K hK => ?_)
        simp only [Mix.pick]
        repeat (go_big_quiet_step (fail))
        refine wpQuiet_nil (hK _ ?_)
        clear hK K
        refine MixH.take 16 10 _ (.pointer (some ⟨e.H, 0, none⟩)) rfl (by kernel_rfl) (by kernel_rfl) (by kernel_rfl) (by kernel_rfl) (yields_pH (.tmp 54) rfl ⟨B, 0, none⟩ _ rfl rfl (fun A hA => hA.1)) hS (fun a' ha => ?_)
        simp only [Act.put, List.setIfInBounds_toArray, List.set_cons_succ, List.set_cons_zero] at ha
        subst ha
        refine MixH.takes [false, false, false, false, false, false, false, false, false, false, false, false, true] 15 (by kernel_rfl) (by kernel_rfl) (by decide) (by kernel_rfl) hS (fun K hK => ?_)
        simp only [Mix.pick]
        repeat (go_big_quiet_step (fail))
        refine wpQuiet_nil (hK _ ?_)
        clear hK K
        refine MixH.take 14 13 _ (.pointer (some ⟨e.R, 0, none⟩)) rfl (by kernel_rfl) (by kernel_rfl) (by kernel_rfl) (by kernel_rfl) (yields_pR (.tmp 57) rfl ⟨B, 1, none⟩ _ rfl rfl (fun A hA => hA.2)) hS (fun a' ha => ?_)
        simp only [Act.put, List.setIfInBounds_toArray, List.set_cons_succ, List.set_cons_zero] at ha
        subst ha
        refine MixH.one [false, false, false, false, false, false, false, false, false, false, false, true] 13 11 _ rfl rfl (by kernel_rfl) (by kernel_rfl) (fun K hK => ?_)
        simp only [Mix.pick]
        go_wp2_with fail
        refine Calls.mono (QW.out _ HA.out.1) ?_
        rintro e0 w1 ⟨rfl, rfl⟩
        go_wp2
        refine ⟨rfl, hK _ _ hS ?_⟩
        clear hK K
        refine MixH.one [false, false, false, false, false, false, false, false, false, false, false, false, false, false, true] 12 14 _ rfl rfl (by kernel_rfl) (by kernel_rfl) (fun K hK => ?_)
        simp only [Mix.pick]
        go_wp2_with fail
        refine Calls.mono (QW2.out _ HA.out.1) ?_
        rintro e0 w2 ⟨rfl, hb2⟩
        have H2 : Hid (EOk w2 e ∧ Below w.heap.size w w2) := ⟨HA.out.1.below hb2, HA.out.2.trans (hb2.mono HA.out.2.size)⟩
        replace hS : w2.cell? ⟨B, 0, none⟩ = some (.pointer (some ⟨e.H, 0, none⟩)) ∧ w2.cell? ⟨B, 1, none⟩ = some (.pointer (some ⟨e.R, 0, none⟩)) := ⟨(World.cell?_of_block (hb2.block B (World.block_lt_of_cell? _ _ hS.1))).trans hS.1, (World.cell?_of_block (hb2.block B (World.block_lt_of_cell? _ _ hS.2))).trans hS.2⟩
        clear hb2 HA
        go_wp2
        refine ⟨rfl, hK _ _ hS ?_⟩
        clear hK K
        refine MixH.takes [false, false, false, false, false, false, false, false, false, false, false, false, false, false, false, true, true, true, true] 8 (by kernel_rfl) (by kernel_rfl) (by decide) (by kernel_rfl) hS (fun K hK => ?_)
        simp only [Mix.pick]
        repeat (go_big_quiet_step (fail))
        refine wpQuiet_nil (hK _ ?_)
        clear hK K
        refine MixH.take 7 19 _ (.pointer (some ⟨e.H, 0, none⟩)) rfl (by kernel_rfl) (by kernel_rfl) (by kernel_rfl) (by kernel_rfl) (yields_pH (.tmp 63) rfl ⟨B, 0, none⟩ _ rfl rfl (fun A hA => hA.1)) hS (fun a' ha => ?_)
        simp only [Act.put, List.setIfInBounds_toArray, List.set_cons_succ, List.set_cons_zero] at ha
        subst ha
        refine MixH.takes [false, false, false, false, false, false, false, false, false, false, false, false, false, false, false, false, false, false, false, false, false, true] 6 (by kernel_rfl) (by kernel_rfl) (by decide) (by kernel_rfl) hS (fun K hK => ?_)
        simp only [Mix.pick]
        repeat (go_big_quiet_step (fail))
        refine wpQuiet_nil (hK _ ?_)
        clear hK K
        refine MixH.take 5 22 _ (.pointer (some ⟨e.R, 0, none⟩)) rfl (by kernel_rfl) (by kernel_rfl) (by kernel_rfl) (by kernel_rfl) (yields_pR (.tmp 66) rfl ⟨B, 1, none⟩ _ rfl rfl (fun A hA => hA.2)) hS (fun a' ha => ?_)
        simp only [Act.put, List.setIfInBounds_toArray, List.set_cons_succ, List.set_cons_zero] at ha
        subst ha
        refine MixH.one [false, false, false, false, false, false, false, false, false, false, false, false, false, false, false, false, false, false, false, false, true] 4 20 _ rfl rfl (by kernel_rfl) (by kernel_rfl) (fun K hK => ?_)
        simp only [Mix.pick]
        go_wp2_with fail
        refine Calls.mono (QH.out _ H2.out.1) ?_
        rintro e0 w3 ⟨rfl, hb3⟩
        have H3 : Hid (EOk w3 e ∧ Below w.heap.size w w3) := ⟨H2.out.1.below hb3, H2.out.2.trans (hb3.mono H2.out.2.size)⟩
        replace hS : w3.cell? ⟨B, 0, none⟩ = some (.pointer (some ⟨e.H, 0, none⟩)) ∧ w3.cell? ⟨B, 1, none⟩ = some (.pointer (some ⟨e.R, 0, none⟩)) := ⟨(World.cell?_of_block (hb3.block B (World.block_lt_of_cell? _ _ hS.1))).trans hS.1, (World.cell?_of_block (hb3.block B (World.block_lt_of_cell? _ _ hS.2))).trans hS.2⟩
        clear hb3 H2
        go_wp2
        refine ⟨rfl, hK _ _ hS ?_⟩
        clear hK K
        refine MixH.one [false, false, false, false, false, false, false, false, false, false, false, false, false, false, false, false, false, false, false, false, false, false, false, true] 3 23 _ rfl rfl (by kernel_rfl) (by kernel_rfl) (fun K hK => ?_)
        simp only [Mix.pick]
        go_wp2_with fail
        refine Calls.mono (QH2.out _ H3.out.1) ?_
        rintro e0 w4 ⟨rfl, rfl⟩
        go_wp2
        refine ⟨rfl, hK _ _ hS ?_⟩
        clear hK K
        refine MixH.takes [false, false, false, false, false, false, false, false, false, false, false, false, false, false, false, false, false, false, false, false, false, false, false, false, true, true, true] 0 (by kernel_rfl) (by kernel_rfl) (by decide) (by kernel_rfl) hS (fun K hK => ?_)
        simp only [Mix.pick]
        repeat (go_big_quiet_step (fail))
        refine wpQuiet_nil (hK _ ?_)
        clear hK K
        refine MixH.done (by kernel_rfl) ?_
        clear hS
        go_wp2
        go_ret
        exact ⟨rfl, BkE.same HK.out.1 HK.out.2.1 HK.out.2.2.1 H3.out.2⟩
    · have n3 : (kind == 3) = false := by rw [beq_eq_false_iff_ne]; exact k3
      by_cases k4 : kind = 4
      · subst k4
        as_aux_lemma =>
          obtain ⟨wh, hwh⟩ : ∃ wh, wh = decide (0 < e.s.en ∧ e.s.gp = []) := ⟨_, rfl⟩
          have HZ : Hid ((bz e.s wh).length ≤ 65535) := by
            cases wh with
            | true => rw [bz_t]; exact HI.out.2.2
            | false => rw [bz_f]; exact Nat.zero_le _
          have QG : Hid (∀ A : World, EOk A e → _) := fun A hA => bytes_any A e.H e.s e.v hA.h HI.out.2.2 wh hwh
          have QR : Hid (∀ A : World, EOk A e → _) := fun A hA => bytesR_any A e.R e.s e.u hA.r HI.out.1 wh hwh
          have n2 : ((4 : Int) == 2) = false := rfl
          have hww : (wh != wh) = false := by simp
          clear hwh
          go_enter Try.func23, Try.ntmps23
          go_upto_region 1 with fail
          rw [HW.out.1, HW.out.2]
          go_wp2_with fail
          refine Calls.mono (QG.out _ HA.out.1) ?_
          rintro e1 w1 ⟨ua, n, uc, rfl, hul, ho1, hb1⟩
          have H1 : Hid (EOk w1 e ∧ Below w.heap.size w w1 ∧ w1.ownsRow W.heap.size 5 1 (.slice ua n uc) n ((toI (bz e.s wh)).map (Value.int .u8))) := ⟨HA.out.1.below hb1, HA.out.2.trans (hb1.mono HA.out.2.size), ho1⟩
          have HUL : Hid ((bz e.s wh).length = n) := hul
          have x1 := (World.cell?_of_block (hb1.block B hBW)).trans q1
          have hn5 : n ≤ 65535 := by rw [← HUL.out]; exact HZ.out
          clear ho1 hb1 QG hul
          go_wp2_with fail
          refine Calls.mono (QR.out _ H1.out.1) ?_
          rintro e2 w2 ⟨ua2, n2', uc2, rfl, hul2, ho2, hb2⟩
          obtain rfl : n2' = n := by rw [← hul2]; exact HUL.out
          have H2 : Hid (Below w.heap.size w w2 ∧ w2.ownsRow W.heap.size 5 1 (.slice ua n2' uc) n2' ((toI (bz e.s wh)).map (Value.int .u8)) ∧ w2.ownsRow w1.heap.size 5 1 (.slice ua2 n2' uc2) n2' ((toI (bz e.s wh)).map (Value.int .u8))) := ⟨H1.out.2.1.trans (hb2.mono H1.out.2.1.size), (Ch.ofBelow (S := fun _ => False) hb2).owns H1.out.2.2 (fun _ _ => id), ho2⟩
          have QS : Hid (Calls Try.prog 16 #[.slice ua n2' uc, .slice ua2 n2' uc2] w2 fun r w' => r = .returned (.bool true) ∧ Below w2.heap.size w2 w') := by
            have h1 := (owns_seg H2.out.2.1 (k := .u8))
            have h2 := (owns_seg H2.out.2.2 (k := .u8))
            obtain ⟨a1, c1, y1, s1, _⟩ := h1
            obtain ⟨a2, c2, y2, s2, _⟩ := h2
            simp only [Value.slice.injEq, true_and] at y1 y2
            obtain ⟨rfl, rfl⟩ := y1
            obtain ⟨rfl, rfl⟩ := y2
            have := same_any ua ua2 n2' n2' uc uc2 (bz e.s wh) (bz e.s wh) w2 HUL.out HUL.out s1 s2 (by omega)
            rw [decide_eq_true rfl] at this
            exact this
          clear ho2 hb2 QR x1 H1 hul2
          go_wp2_with fail
          refine Calls.mono QS.out ?_
          rintro e3 w3 ⟨rfl, hb3⟩
          have H3 : Hid (Below w.heap.size w w3 ∧ w3.ownsRow W.heap.size 5 1 (.slice ua n2' uc) n2' ((toI (bz e.s wh)).map (Value.int .u8))) := ⟨H2.out.1.trans (hb3.mono H2.out.1.size), (Ch.ofBelow (S := fun _ => False) hb3).owns H2.out.2.1 (fun _ _ => id)⟩
          have HWs : Hid (w.heap.size ≤ W.heap.size) := HA.out.2.size
          have QB : Hid _ := bookBytes_any w3 BK b (HK.out.1.below H3.out.1) HK.out.2.1 HK.out.2.2.1 ua uc n2' _ (owns_mono H3.out.2 (Nat.zero_le _)) hn5 HK.out.2.2.2.1 (fun q hq z => by have h1 := (H3.out.2.lt q hq).1; have h2 := HK.out.1.lt q z; have h3 := HWs.out; omega)
          clear hb3 QS H2
          go_wp2_with fail
          refine Calls.mono QB.out ?_
          rintro e4 w4 ⟨rfl, hd⟩
          have HD : Hid (BkE w BK b w4) := BkE.of H3.out.1 hd (fun x hx => Nat.le_trans HWs.out (H3.out.2.lt x hx).1)
          clear hd QB
          go_wp2
          go_ret
          exact ⟨rfl, HD.out⟩
      · have n4 : (kind == 4) = false := by rw [beq_eq_false_iff_ne]; exact k4
        clear k2 k3 k4
        as_aux_lemma =>
          go_enter Try.func23, Try.ntmps23
          go_wp2
          go_ret
          exact ⟨rfl, BkE.same HK.out.1 HK.out.2.1 HK.out.2.2.1 (by have := HA.out.2; rw [← HW.out.1] at this; exact this)⟩
end H11
end Go.Proofs.Ytcoaghcmbhogjaa
namespace Go.Proofs.Ytcoaghcmbhogjaa
open Go.RowKit Go.Maps
namespace H11
def RES2 (w3 : World) (e : Ent) (s' : HS) (C : Array Value) (wx : World) (F : Nat) : Prop :=
  ∃ v', HAt wx e.H s' v' ∧ (∀ x, HB e.H v' x → HB e.H e.v x ∨ w3.heap.size ≤ x) ∧ (∀ x, HB e.H v' x → x ≠ F) ∧ Ch (EB e) w3 wx ∧ RAt wx e.R e.s e.u ∧ FtAt wx F C ∧ w3.heap.size ≤ F
theorem ordA {w3 wA w4 w5 w6 : World} {e : Ent} {s' : HS} {C : Array Value} {F : Nat} (he : EOk w3 e) (hA : Ch (fun _ => False) w3 wA) (m : Moved wA e.H e.v w4 s') (hF : F = w4.heap.size) (hb : Below w4.heap.size w4 w5) (k : Ch (fun q => q = F) w5 w6) (hft : FtAt w6 F C) : RES2 w3 e s' C w6 F := by
  obtain ⟨v', m1, m2, m3⟩ := m
  have s1 := hA.size
  have s2 := m3.size
  have h5 := m1.below hb
  refine ⟨v', h5.ch k (fun x hx q => ?_), ?_, ?_, ?_, ?_, hft, by omega⟩
  · have e' : x = F := q
    have := m1.lt x hx
    omega
  · intro x hx
    rcases m2 x hx with z | z
    · exact .inl z
    · exact .inr (by omega)
  · intro x hx e'
    have := m1.lt x hx
    omega
  · refine ((hA.mono (T := EB e) (fun _ _ q => q.elim)).trans m3 (fun x _ q => .inl q)).trans ((Ch.ofBelow (S := fun _ => False) hb).trans k (fun x hx q => ?_)) (fun _ _ q => q.elim)
    have e' : x = F := q
    omega
  · have hr := (he.r.ch hA (fun _ _ => id)).ch m3 (fun x hx q => he.dis x q hx)
    refine (hr.below hb).ch k (fun x hx q => ?_)
    have e' : x = F := q
    have := he.r.lt x hx
    omega
theorem ordB {w3 wA w4 w5 w6 : World} {e : Ent} {s' : HS} {C : Array Value} {F : Nat} (he : EOk w3 e) (hA : Ch (fun _ => False) w3 wA) (hF : F = wA.heap.size) (hb : Below wA.heap.size wA w4) (hs4 : w4.heap.size = F + 1) (m : Moved w4 e.H e.v w5 s') (k : Ch (fun q => q = F) w5 w6) (hft : FtAt w6 F C) : RES2 w3 e s' C w6 F := by
  obtain ⟨v', m1, m2, m3⟩ := m
  have s1 := hA.size
  have s2 := m3.size
  have n1 : ∀ x, HB e.H v' x → x ≠ F := by
    intro x hx e'
    rcases m2 x hx with z | z
    · have := he.h.lt x z; omega
    · omega
  refine ⟨v', m1.ch k (fun x hx q => n1 x hx q), ?_, n1, ?_, ?_, hft, by omega⟩
  · intro x hx
    rcases m2 x hx with z | z
    · exact .inl z
    · exact .inr (by omega)
  · refine ((hA.mono (T := EB e) (fun _ _ q => q.elim)).trans ((Ch.ofBelow (S := EB e) hb).trans m3 (fun x _ q => .inl q)) (fun _ _ q => q)).trans k (fun x hx q => ?_)
    have e' : x = F := q
    omega
  · have hr := ((he.r.ch hA (fun _ _ => id)).below hb).ch m3 (fun x hx q => he.dis x q hx)
    refine hr.ch k (fun x hx q => ?_)
    have e' : x = F := q
    have := he.r.lt x hx
    omega
theorem u8_row (l : List Nat) (a b c : Nat) : (toI (l ++ [a, b, c])).map (Value.int .u8) = (toI l).map (Value.int .u8) ++ [.int .u8 (a : Int), .int .u8 (b : Int), .int .u8 (c : Int)] := by simp [toI]
set_option maxRecDepth 100000 in
set_option maxHeartbeats 12800000 in
theorem put_any (w : World) (e : Ent) (he : EOk w e) (htk : e.s.tk.length ≤ 100000) (off : Int) (d : List Nat) (da : Option Addr) (n c : Nat) (hn : d.length = n) (hn6 : n ≤ 65536) (hc : n ≤ c) (more : Bool) (h256 : ∀ x ∈ d, x < 256) (hseg : Seg .u8 w da (toI d)) (hdn : ∀ x, d ≠ [] → da = some x → ¬ EB e x.block) :
    Calls Try.prog 22 #[pv e, .int .i64 off, .slice da n c, .bool more] w fun r w' => r = .returned (.bool true) ∧ EMd w e (pS e.s off d more) w' := by
  unfold pv
  obtain ⟨i0, hi0, hz0, hz1, hz2⟩ := info_parts Try.infoByte
  obtain ⟨W, hW, hp, hbW⟩ := one_box w #[.pointer (some ⟨e.H, 0, none⟩), .pointer (some ⟨e.R, 0, none⟩)]
  obtain ⟨B, hB⟩ : ∃ B, B = w.heap.size := ⟨_, rfl⟩
  rw [← hB] at hp
  have q0 : W.cell? ⟨B, 0, none⟩ = some (.pointer (some ⟨e.H, 0, none⟩)) := (hp.cell 0).trans rfl
  have q1 : W.cell? ⟨B, 1, none⟩ = some (.pointer (some ⟨e.R, 0, none⟩)) := (hp.cell 1).trans rfl
  have hBW := hp.lt
  have HW : Hid (w.alloc (.cells #[.pointer (some ⟨e.H, 0, none⟩), .pointer (some ⟨e.R, 0, none⟩)] 56) = W ∧ w.heap.size = B) := ⟨hW.symm, hB.symm⟩
  have HE : Hid (EOk w e ∧ Below w.heap.size w W) := ⟨he, hbW⟩
  have HSG : Hid (∀ A : World, Ch (EB e) w A → Seg .u8 A da (toI d)) := fun A hA => hA.seg hseg (fun x hz hx => hdn x (fun e2 => hz (by rw [e2]; rfl)) hx)
  have hsW : Seg .u8 W da (toI d) := HSG.out W (Ch.ofBelow hbW)
  have hl2 : (toI d).length = n := by rw [toI_len]; exact hn
  obtain ⟨s', hs'⟩ : ∃ s', s' = pS e.s off d more := ⟨_, rfl⟩
  obtain ⟨NW, hNW⟩ : ∃ NW, NW = pN e.s off d more := ⟨_, rfl⟩
  obtain ⟨OL, hOL⟩ : ∃ OL, OL = pO e.s off d more := ⟨_, rfl⟩
  obtain ⟨SM, hSM⟩ : ∃ SM, SM = pM e.s off d more := ⟨_, rfl⟩
  obtain ⟨E, hE⟩ : ∃ E, E = rf e.s off n more := ⟨_, rfl⟩
  have HN : Hid (d.length = n) := hn
  have HI : Hid (Inv s') := by rw [hs']; exact pS_inv he.inv off d more h256
  have QP0 : Hid (∀ (A : World) (la : Option Addr) (lc : Nat), HAt A e.H e.s e.v → n ≤ lc → Seg .u8 A la (toI d) → (∀ x, d ≠ [] → la = some x → ¬ HB e.H e.v x.block) → Calls Try.prog 13 #[.pointer (some ⟨e.H, 0, none⟩), .int .i64 off, .slice la n lc, .bool more] A fun r w' => r = .returned (.tuple #[.agg #[.int .i64 (NW : Int), .int .i64 OL, .bool SM], .int .i64 E]) ∧ Moved A e.H e.v w' s') := by
    intro A la lc hA hlc hs hd
    rw [hs', hNW, hOL, hSM, hE, ← hn]
    exact put_u A e.H e.s e.v hA he.inv off d la lc more h256 (by omega) (by omega) hs hd
  have QR0 : Hid (∀ A : World, RAt A e.R e.s e.u → Ch (EB e) w A → Calls Try.prog 26 #[.pointer (some ⟨e.R, 0, none⟩), .int .i64 off, .slice da n c, .bool more] A fun r w' => r = .returned (.tuple #[.agg #[.int .i64 (NW : Int), .int .i64 OL, .bool SM], .int .i64 E]) ∧ ∃ u', RAt w' e.R s' u' ∧ (∀ x, RB e.R u' x → RB e.R e.u x ∨ A.heap.size ≤ x) ∧ Ch (RB e.R e.u) A w') := by
    intro A hA hcA
    rw [hs', hNW, hOL, hSM, hE, ← hn]
    exact putR_u A e.R e.s e.u hA he.inv off d da c more h256 (by omega) (by omega) (HSG.out A hcA) (fun x hd hx q => hdn x hd hx (.inr q))
  rw [← hs']
  have HD8 : Hid (∀ x, x ∈ d → x < 256) := h256
  clear hW hB hp hbW he htk hn hseg hdn hs' hNW hOL hSM hE h256
  go_enter Try.func22, Try.ntmps22
  go_upto_region 1 with fail
  rw [HW.out.1, HW.out.2]
  go_wp2_with (first | (at_builtin; refine wpList_append_seg rfl (.const (.slice none 0 0)) (.tmp 15) 22 rfl W.heap.size 5 i0 _ 1 Try.underlying22 hi0 hz0 hz1 hz2 rfl (.slice none 0 0) 0 [] rfl (World.ownsRow_nil _ _ _ _) .u8 da n _ (toI d) rfl hl2 hsW (by unfold maxLen; omega) (by omega) (Nat.le_refl _) ?_))
  intro u1 w1 ho1 hg1
  have hb1 : Below W.heap.size W w1 := (Below.refl _ _).grown hg1 (Nat.le_refl _) (by intro k hk; simp [Value.ownBlock] at hk)
  have ho1' : w1.ownsRow W.heap.size 5 1 u1 n ((toI d).map (Value.int .u8)) := by simpa using ho1
  obtain ⟨ua, uc, hu1⟩ := owns_shape ho1'
  subst hu1
  have HB1 : Hid (Below W.heap.size W w1 ∧ w1.ownsRow W.heap.size 5 1 (.slice ua n uc) n ((toI d).map (Value.int .u8))) := ⟨hb1, ho1'⟩
  have hs1 := hb1.size
  clear ho1 hg1 hb1 hsW
  go_wp2_with (first | (at_builtin; refine wpList_append_own_at _ rfl (.tmp 16) (.tmp 17) 22 rfl W.heap.size 5 i0 _ 1 1 Try.underlying22 hi0 hz0 hz1 hz2 rfl (by decide) _ _ _ rfl (ho1'.alloc _) ⟨w1.heap.size, 0, none⟩ 3 3 [.int .u8 201, .int .u8 202, .int .u8 203] rfl rfl ?pa1 ?pa2 ?pa3 ?pa4 ?pa5 ?_))
  try (case pa1 => exact three_newR _ _ _ _ _)
  try (case pa2 => first | exact ⟨rfl, rfl, rfl⟩ | (intro u hu; simp at hu; rcases hu with rfl | rfl | rfl <;> rfl))
  try (case pa3 => unfold maxLen; omega)
  try (case pa4 => omega)
  try (case pa5 => (try simp only [World.size_alloc]); omega)
  intro u3 w3 r1 r2 _ _
  obtain ⟨la, lc, hu3⟩ := owns_shape r1
  subst hu3
  obtain ⟨l3, hl3⟩ : ∃ l3, l3 = d ++ [201, 202, 203] := ⟨_, rfl⟩
  have hba : Below W.heap.size W (w1.alloc (.cells #[.int .u8 201, .int .u8 202, .int .u8 203] 5)) := HB1.out.1.alloc HB1.out.1.size _
  have hb3 : Below W.heap.size W w3 := hba.grown r2 hba.size (fun q hq => (ho1'.lt q hq).1)
  have H3 : Hid (w3.ownsRow W.heap.size 5 1 (.slice la (n + 3) lc) (n + 3) ((toI l3).map (Value.int .u8)) ∧ Below w.heap.size w w3 ∧ l3 = d ++ [201, 202, 203]) := by
    refine ⟨?_, HE.out.2.trans (hb3.mono HE.out.2.size), hl3⟩
    rw [hl3, u8_row]
    exact r1
  have HE3 : Hid (EOk w3 e) := HE.out.1.below H3.out.2.1
  have b0 := (World.cell?_of_block (hb3.block B hBW)).trans q0
  have b1 := (World.cell?_of_block (hb3.block B hBW)).trans q1
  have HBB : Hid (B < W.heap.size ∧ (∀ x, EB e x → x < B) ∧ W.heap.size ≤ w3.heap.size) := ⟨hBW, fun x hx => by rw [← HW.out.2]; exact HE.out.1.lt x hx, hb3.size⟩
  have HBX : Hid ((∀ A : World, Ch (HB e.H e.v) w3 A → (A.cell? ⟨B, 0, none⟩ = some (.pointer (some ⟨e.H, 0, none⟩)) ∧ A.cell? ⟨B, 1, none⟩ = some (.pointer (some ⟨e.R, 0, none⟩)))) ∧ (∀ A : World, Ch (EB e) w3 A → (A.cell? ⟨B, 0, none⟩ = some (.pointer (some ⟨e.H, 0, none⟩)) ∧ A.cell? ⟨B, 1, none⟩ = some (.pointer (some ⟨e.R, 0, none⟩))))) := by
    refine ⟨fun A hA => ⟨hA.cell b0 (fun q => ?_), hA.cell b1 (fun q => ?_)⟩, fun A hA => ⟨hA.cell b0 (fun q => ?_), hA.cell b1 (fun q => ?_)⟩⟩
    · exact Nat.lt_irrefl _ (HBB.out.2.1 B (.inl q))
    · exact Nat.lt_irrefl _ (HBB.out.2.1 B (.inl q))
    · exact Nat.lt_irrefl _ (HBB.out.2.1 B q)
    · exact Nat.lt_irrefl _ (HBB.out.2.1 B q)
  have hnl : n + 3 ≤ lc := by
    rcases H3.out.1.2 with ⟨_, z⟩ | ⟨g, cap, cur, z1, _, _, z4, _⟩
    · omega
    · simp only [Value.slice.injEq, true_and] at z1
      rw [z1.2]; exact z4
  have hnl0 : n ≤ lc := by omega
  obtain ⟨lb, hla⟩ : ∃ lb, la = some ⟨lb, 0, none⟩ := by
    rcases H3.out.1.2 with ⟨_, z⟩ | ⟨g, cap, cur, z1, _⟩
    · omega
    · simp only [Value.slice.injEq, true_and] at z1
      exact ⟨g, z1.1⟩
  subst hla
  have HLB : Hid (W.heap.size ≤ lb ∧ lb < w3.heap.size) := H3.out.1.lt lb rfl
  have HSL : Hid (∀ A : World, Ch (EB e) w3 A → A.ownsRow W.heap.size 5 1 (.slice (some ⟨lb, 0, none⟩) (n + 3) lc) (n + 3) ((toI l3).map (Value.int .u8))) := fun A hA => hA.owns H3.out.1 (fun q hq z => by have h1 := (H3.out.1.lt q hq).1; have h2 := HBB.out.2.1 q z; have h3 := HBB.out.1; omega)
  have HSP : Hid (∀ A : World, A.ownsRow W.heap.size 5 1 (.slice (some ⟨lb, 0, none⟩) (n + 3) lc) (n + 3) ((toI l3).map (Value.int .u8)) → Seg .u8 A (some ⟨lb, 0, none⟩) (toI d)) := by
    intro A hA
    refine .inr ⟨lb, 0, rfl, fun i hi => ?_⟩
    rw [toI_len, HN.out] at hi
    have hcl := hA.cellAt i (by omega)
    rw [H3.out.2.2, u8_row, List.getElem?_append_left (by rw [List.length_map, toI_len, HN.out]; exact hi), List.getElem?_map, List.getElem?_eq_getElem (by rw [toI_len, HN.out]; exact hi)] at hcl
    rw [Nat.zero_add, hcl]
    simp [List.getD, show i < (toI d).length by rw [toI_len, HN.out]; exact hi]
  have QP : Hid (∀ A : World, Ch (fun _ => False) w3 A → Calls Try.prog 13 #[.pointer (some ⟨e.H, 0, none⟩), .int .i64 off, .slice (some ⟨lb, 0, none⟩) n lc, .bool more] A fun r w' => r = .returned (.tuple #[.agg #[.int .i64 (NW : Int), .int .i64 OL, .bool SM], .int .i64 E]) ∧ Moved A e.H e.v w' s') := by
    intro A hA
    refine QP0.out A _ lc (HE3.out.h.ch hA (fun _ _ => id)) (by omega) (HSP.out A (HSL.out A (hA.mono (fun _ _ q => q.elim)))) (fun x _ hx q => ?_)
    simp only [Option.some.injEq] at hx
    subst hx
    have h1 := HBB.out.2.1 lb (.inl q)
    have h2 := HLB.out.1
    have h3 := HBB.out.1
    omega
  clear hb3 hba r1 r2 ho1' HB1 q0 q1 hBW hl3 QP0 hs1
  go_upto_region 2 with fail
  go_cut [10, 11] (fun x y wx => ∃ F : Nat, x = .pointer (some ⟨F, 0, none⟩) ∧ y = .int .i64 E ∧ Hid (RES2 w3 e s' #[.int .i64 (NW : Int), .int .i64 OL, .bool SM] wx F))
  case first =>
    refine MixH.start (fun A => A.cell? ⟨B, 0, none⟩ = some (.pointer (some ⟨e.H, 0, none⟩)) ∧ A.cell? ⟨B, 1, none⟩ = some (.pointer (some ⟨e.R, 0, none⟩))) (by kernel_rfl) ?_
    obtain ⟨wA, hwA⟩ : ∃ wA, wA = w3.drew := ⟨_, rfl⟩
    have hS : wA.cell? ⟨B, 0, none⟩ = some (.pointer (some ⟨e.H, 0, none⟩)) ∧ wA.cell? ⟨B, 1, none⟩ = some (.pointer (some ⟨e.R, 0, none⟩)) := by rw [hwA]; exact ⟨b0, b1⟩
    have HA : Hid (Ch (fun _ => False) w3 wA) := by rw [hwA]; exact (Ch.refl _ _).drew
    rw [← hwA]
    clear hwA b0 b1
    refine MixH.takes [true] 14 (by kernel_rfl) (by kernel_rfl) (by decide) (by kernel_rfl) hS (fun K hK => ?_)
    simp only [Mix.pick]
    repeat (go_big_quiet_step (fail))
    refine wpQuiet_nil (hK _ ?_)
    clear hK K
    refine MixH.take 13 1 _ (.pointer (some ⟨e.H, 0, none⟩)) rfl (by kernel_rfl) (by kernel_rfl) (by kernel_rfl) (by kernel_rfl) (yields_pH (.tmp 20) rfl ⟨B, 0, none⟩ _ rfl rfl (fun A hA => hA.1)) hS (fun a' ha => ?_)
    simp only [Act.put, List.setIfInBounds_toArray, List.set_cons_succ, List.set_cons_zero] at ha
    subst ha
    refine MixH.takes [false, false, true, true, true, true, true, true] 7 (by kernel_rfl) (by kernel_rfl) (by decide) (by kernel_rfl) hS (fun K hK => ?_)
    simp only [Mix.pick]
    repeat (go_big_quiet_step (fail))
    refine wpQuiet_nil (hK _ ?_)
    clear hK K
    refine MixH.many [8, 12] 6 (by kernel_rfl) (by decide) (by kernel_rfl) ?_
    intro i hi
    simp only [List.mem_cons, List.not_mem_nil, or_false] at hi
    rcases hi with rfl | rfl
    · refine ⟨_, rfl, fun K hK => ?_⟩
      go_wp2_with fail
      refine Calls.mono (QP.out wA HA.out) ?_
      rintro e0 w4 ⟨rfl, hm⟩
      have H4 : Hid (Moved wA e.H e.v w4 s') := hm
      have hS4 : w4.cell? ⟨B, 0, none⟩ = some (.pointer (some ⟨e.H, 0, none⟩)) ∧ w4.cell? ⟨B, 1, none⟩ = some (.pointer (some ⟨e.R, 0, none⟩)) := HBX.out.1 w4 (by obtain ⟨_, _, _, m3⟩ := hm; exact (HA.out.mono (T := HB e.H e.v) (fun _ _ q => q.elim)).trans m3 (fun _ _ q => q))
      clear hm
      go_wp2
      refine ⟨rfl, hK _ _ hS4 ?_⟩
      clear hK K
      refine MixH.takes [false, false, false, false, false, false, false, false, false, true, true, true] 3 (by kernel_rfl) (by kernel_rfl) (by decide) (by kernel_rfl) hS4 (fun K hK => ?_)
      simp only [Mix.pick]
      repeat (go_big_quiet_step (fail))
      refine wpQuiet_nil (hK _ ?_)
      clear hK K
      refine MixH.one [false, false, false, false, false, false, false, false, false, false, false, false, true] 2 12 _ rfl rfl (by kernel_rfl) (by kernel_rfl) (fun K hK => ?_)
      simp only [Mix.pick]
      go_wp2
      obtain ⟨w5, hw5⟩ : ∃ x, x = w4.alloc (.cells #[.int .i64 0, .int .i64 0, .bool false] 33) := ⟨_, rfl⟩
      obtain ⟨F, hF⟩ : ∃ x, x = w4.heap.size := ⟨_, rfl⟩
      have hft : FtAt w5 F ftz := by rw [hw5, hF]; exact FtAt_new _ _
      have hb5 : Below w4.heap.size w4 w5 := by rw [hw5]; exact (Below.refl _ _).alloc (Nat.le_refl _) _
      have hS5 : w5.cell? ⟨B, 0, none⟩ = some (.pointer (some ⟨e.H, 0, none⟩)) ∧ w5.cell? ⟨B, 1, none⟩ = some (.pointer (some ⟨e.R, 0, none⟩)) := ⟨(World.cell?_of_block (hb5.block B (World.block_lt_of_cell? _ _ hS4.1))).trans hS4.1, (World.cell?_of_block (hb5.block B (World.block_lt_of_cell? _ _ hS4.2))).trans hS4.2⟩
      have HF5 : Hid (F = w4.heap.size ∧ Below w4.heap.size w4 w5) := ⟨hF, hb5⟩
      rw [← hw5, ← hF]
      clear hw5 hF hb5 hS4
      refine ⟨rfl, hK _ _ hS5 ?_⟩
      clear hK K
      refine MixH.one [false, false, false, false, false, false, false, false, false, false, false, false, false, true] 1 13 _ rfl rfl (by kernel_rfl) (by kernel_rfl) (fun K hK => ?_)
      simp only [Mix.pick]
      go_wp2_with (first | (refine wpList_store_Ft (.tmp 10) (.tmp 29) rfl rfl F ftz #[.int .i64 (NW : Int), .int .i64 OL, .bool SM] rfl rfl (ft_one _ _ _) rfl rfl hft rfl ?_))
      intro w6 hf6 k6
      have HR : Hid (RES2 w3 e s' #[.int .i64 (NW : Int), .int .i64 OL, .bool SM] w6 F) := ordA HE3.out HA.out H4.out HF5.out.1 HF5.out.2 k6 hf6
      have hS6 : w6.cell? ⟨B, 0, none⟩ = some (.pointer (some ⟨e.H, 0, none⟩)) ∧ w6.cell? ⟨B, 1, none⟩ = some (.pointer (some ⟨e.R, 0, none⟩)) := HBX.out.2 w6 (by obtain ⟨_, _, _, _, c, _⟩ := HR.out; exact c)
      clear hf6 k6 hft hS5 HF5 H4
      go_wp2
      refine ⟨rfl, hK _ _ hS6 ?_⟩
      clear hK K
      refine MixH.takes [false, false, false, false, false, false, false, false, false, false, false, false, false, false, true] 0 (by kernel_rfl) (by kernel_rfl) (by decide) (by kernel_rfl) hS6 (fun K hK => ?_)
      simp only [Mix.pick]
      repeat (go_big_quiet_step (fail))
      refine wpQuiet_nil (hK _ ?_)
      clear hK K
      refine MixH.done (by kernel_rfl) ?_
      clear hS6
      go_wp2
      go_meet
      exact ⟨F, rfl, rfl, HR⟩
    · refine ⟨_, rfl, fun K hK => ?_⟩
      go_wp2
      obtain ⟨w4, hw4⟩ : ∃ x, x = wA.alloc (.cells #[.int .i64 0, .int .i64 0, .bool false] 33) := ⟨_, rfl⟩
      obtain ⟨F, hF⟩ : ∃ x, x = wA.heap.size := ⟨_, rfl⟩
      have hft : FtAt w4 F ftz := by rw [hw4, hF]; exact FtAt_new _ _
      have hb4 : Below wA.heap.size wA w4 := by rw [hw4]; exact (Below.refl _ _).alloc (Nat.le_refl _) _
      have hS4 : w4.cell? ⟨B, 0, none⟩ = some (.pointer (some ⟨e.H, 0, none⟩)) ∧ w4.cell? ⟨B, 1, none⟩ = some (.pointer (some ⟨e.R, 0, none⟩)) := ⟨(World.cell?_of_block (hb4.block B (World.block_lt_of_cell? _ _ hS.1))).trans hS.1, (World.cell?_of_block (hb4.block B (World.block_lt_of_cell? _ _ hS.2))).trans hS.2⟩
      have HF4 : Hid (F = wA.heap.size ∧ Below wA.heap.size wA w4 ∧ w4.heap.size = F + 1 ∧ FtAt w4 F ftz ∧ Ch (fun _ => False) w3 w4) := ⟨hF, hb4, by rw [hw4, hF]; simp, hft, HA.out.trans (Ch.ofBelow (S := fun _ => False) hb4) (fun _ _ q => q)⟩
      rw [← hw4, ← hF]
      clear hw4 hF hb4 hft
      refine ⟨rfl, hK _ _ hS4 ?_⟩
      clear hK K
      refine MixH.one [false, false, false, false, false, false, false, false, true] 5 8 _ rfl rfl (by kernel_rfl) (by kernel_rfl) (fun K hK => ?_)
      simp only [Mix.pick]
      go_wp2_with fail
      refine Calls.mono (QP.out w4 HF4.out.2.2.2.2) ?_
      rintro e0 w5 ⟨rfl, hm⟩
      have H5 : Hid (Moved w4 e.H e.v w5 s') := hm
      have hS5 : w5.cell? ⟨B, 0, none⟩ = some (.pointer (some ⟨e.H, 0, none⟩)) ∧ w5.cell? ⟨B, 1, none⟩ = some (.pointer (some ⟨e.R, 0, none⟩)) := HBX.out.1 w5 (by obtain ⟨_, _, _, m3⟩ := hm; exact (HF4.out.2.2.2.2.mono (T := HB e.H e.v) (fun _ _ q => q.elim)).trans m3 (fun _ _ q => q))
      have hft : FtAt w5 F ftz := by
        obtain ⟨_, _, _, m3⟩ := hm
        refine HF4.out.2.2.2.1.ch m3 (fun q => ?_)
        have h1 := HE3.out.h.lt F q
        have h2 := HA.out.size
        have h3 := HF4.out.1
        omega
      clear hm hS4
      go_wp2
      refine ⟨rfl, hK _ _ hS5 ?_⟩
      clear hK K
      refine MixH.takes [false, false, false, false, false, false, false, false, false, true, true, true] 2 (by kernel_rfl) (by kernel_rfl) (by decide) (by kernel_rfl) hS5 (fun K hK => ?_)
      simp only [Mix.pick]
      repeat (go_big_quiet_step (fail))
      refine wpQuiet_nil (hK _ ?_)
      clear hK K
      refine MixH.one [false, false, false, false, false, false, false, false, false, false, false, false, false, true] 1 13 _ rfl rfl (by kernel_rfl) (by kernel_rfl) (fun K hK => ?_)
      simp only [Mix.pick]
      go_wp2_with (first | (refine wpList_store_Ft (.tmp 10) (.tmp 29) rfl rfl F ftz #[.int .i64 (NW : Int), .int .i64 OL, .bool SM] rfl rfl (ft_one _ _ _) rfl rfl hft rfl ?_))
      intro w6 hf6 k6
      have HR : Hid (RES2 w3 e s' #[.int .i64 (NW : Int), .int .i64 OL, .bool SM] w6 F) := ordB HE3.out HA.out HF4.out.1 HF4.out.2.1 HF4.out.2.2.1 H5.out k6 hf6
      have hS6 : w6.cell? ⟨B, 0, none⟩ = some (.pointer (some ⟨e.H, 0, none⟩)) ∧ w6.cell? ⟨B, 1, none⟩ = some (.pointer (some ⟨e.R, 0, none⟩)) := HBX.out.2 w6 (by obtain ⟨_, _, _, _, c, _⟩ := HR.out; exact c)
      clear hf6 k6 hft hS5 HF4 H5
      go_wp2
      refine ⟨rfl, hK _ _ hS6 ?_⟩
      clear hK K
      refine MixH.takes [false, false, false, false, false, false, false, false, false, false, false, false, false, false, true] 0 (by kernel_rfl) (by kernel_rfl) (by decide) (by kernel_rfl) hS6 (fun K hK => ?_)
      simp only [Mix.pick]
      repeat (go_big_quiet_step (fail))
      refine wpQuiet_nil (hK _ ?_)
      clear hK K
      refine MixH.done (by kernel_rfl) ?_
      clear hS6
      go_wp2
      go_meet
      exact ⟨F, rfl, rfl, HR⟩
  case rest =>
    obtain ⟨F, rfl, rfl, HR⟩ := hcut
    as_aux_lemma =>
      obtain ⟨v', m1, m2, m3, m4, m5, m6, m7⟩ := HR.out
      have HM : Hid (HAt wc e.H s' v' ∧ (∀ x, HB e.H v' x → HB e.H e.v x ∨ w3.heap.size ≤ x) ∧ (∀ x, HB e.H v' x → x ≠ F) ∧ Ch (EB e) w3 wc ∧ RAt wc e.R e.s e.u ∧ FtAt wc F #[.int .i64 (NW : Int), .int .i64 OL, .bool SM] ∧ w3.heap.size ≤ F) := ⟨m1, m2, m3, m4, m5, m6, m7⟩
      have HWC : Hid (Ch (EB e) w wc) := (Ch.ofBelow (S := EB e) H3.out.2.1).trans m4 (fun _ _ q => q)
      obtain ⟨x0, x1⟩ := HBX.out.2 wc m4
      have QR := QR0.out wc m5 HWC.out
      have HQR : Hid _ := QR
      clear m1 m2 m3 m4 m5 m6 m7 HR QR QR0 b0 b1 QP
      go_wp2_with fail
      refine Calls.mono HQR.out ?_
      rintro e1 w5 ⟨rfl, u', a1, a2, a3⟩
      have H5 : Hid (RAt w5 e.R s' u' ∧ (∀ x, RB e.R u' x → RB e.R e.u x ∨ wc.heap.size ≤ x) ∧ Ch (RB e.R e.u) wc w5) := ⟨a1, a2, a3⟩
      have HD5 : Hid (∀ x, HB e.H v' x → ¬ RB e.R e.u x) := by
        intro x hx q
        rcases HM.out.2.1 x hx with z | z
        · exact HE3.out.dis x z q
        · have := HE3.out.r.lt x q; omega
      clear a1 a2 a3 HQR x0 x1
      go_upto_region 4 with fail
      obtain ⟨G, hG⟩ : ∃ G, G = w5.heap.size := ⟨_, rfl⟩
      obtain ⟨w6, hw6⟩ : ∃ w6, w6 = w5.alloc (.cells #[.int .i64 (NW : Int), .int .i64 OL, .bool SM] 33) := ⟨_, rfl⟩
      have hb6 : Below w5.heap.size w5 w6 := by rw [hw6]; exact (Below.refl _ _).alloc (Nat.le_refl _) _
      have hfG : FtAt w6 G #[.int .i64 (NW : Int), .int .i64 OL, .bool SM] := by rw [hw6, hG]; exact FtAt_new _ _
      have hfF : FtAt w6 F #[.int .i64 (NW : Int), .int .i64 OL, .bool SM] := (HM.out.2.2.2.2.2.1.ch H5.out.2.2 (fun q => by have h1 := HE3.out.r.lt F q; have h2 := HM.out.2.2.2.2.2.2; omega)).below hb6
      have HEM : Hid (EMd w3 e s' w6) := by
        have h := put2 HM.out.1 HI.out HM.out.2.1 HM.out.2.2.2.1 HD5.out H5.out.1 H5.out.2.1 H5.out.2.2
        obtain ⟨e', g1, g2, g3, g4, g5, g6⟩ := h
        exact ⟨e', g1.below hb6, g2, g3, g4, g5, g6.trans (Ch.ofBelow (S := fun _ => False) hb6) (fun _ _ q => q.elim)⟩
      have HC6 : Hid (Ch (EB e) w3 w6) := by obtain ⟨_, _, _, _, _, _, g6⟩ := HEM.out; exact g6
      rw [← hG, ← hw6]
      have HR6 : Hid (w6.ownsRow W.heap.size 5 1 (.slice (some ⟨lb, 0, none⟩) (n + 3) lc) (n + 3) ((toI l3).map (Value.int .u8))) := HSL.out w6 HC6.out
      have QS : Hid (Calls Try.prog 16 #[.slice (some ⟨lb, 0, none⟩) n lc, .slice da n c] w6 fun r w' => r = .returned (.bool true) ∧ Below w6.heap.size w6 w') := by
        have := same_any (some ⟨lb, 0, none⟩) da n n lc c d d w6 HN.out HN.out (HSP.out w6 HR6.out) (HSG.out w6 ((Ch.ofBelow (S := EB e) H3.out.2.1).trans HC6.out (fun _ _ q => q))) (by omega)
        rw [decide_eq_true rfl] at this
        exact this
      have HT : Hid (∀ A : World, A.ownsRow W.heap.size 5 1 (.slice (some ⟨lb, 0, none⟩) (n + 3) lc) (n + 3) ((toI l3).map (Value.int .u8)) → A.cell? ⟨lb, n, none⟩ = some (.int .u8 201) ∧ A.cell? ⟨lb, n + 2, none⟩ = some (.int .u8 203)) := by
        intro A hA
        have h1 := hA.cellAt n (by omega)
        have h2 := hA.cellAt (n + 2) (by omega)
        rw [H3.out.2.2, u8_row, List.getElem?_append_right (by rw [List.length_map, toI_len, HN.out]; omega), List.length_map, toI_len, HN.out] at h1 h2
        rw [Nat.sub_self] at h1
        rw [show n + 2 - n = 2 by omega] at h2
        exact ⟨h1, h2⟩
      have g1 : (E != E) = false := by simp
      have g2 : (n : Int) < ((n + 3 : Nat) : Int) := by omega
      have g3 : IntKind.i64.wrap ((n : Int) + 2) = ((n + 2 : Nat) : Int) := by rw [IntKind.wrap_i64]; omega
      have g4 : ((n + 2 : Nat) : Int) < ((n + 3 : Nat) : Int) := by omega
      clear hG hw6 hb6 H5 HD5 HM HWC
      go_wp2_with (first | (refine wpList_load_Ft (.tmp 10) rfl F _ rfl rfl hfF rfl ?_) | (refine wpList_load_Ft (.tmp 12) rfl G _ rfl rfl hfG rfl ?_) | (refine wpList_neq_fit (.tmp 44) (.tmp 45) rfl _ _ _ rfl rfl rfl ?_))
      refine Calls.mono QS.out ?_
      rintro e2 w7 ⟨rfl, hb7⟩
      have HR7 : Hid (w7.ownsRow W.heap.size 5 1 (.slice (some ⟨lb, 0, none⟩) (n + 3) lc) (n + 3) ((toI l3).map (Value.int .u8)) ∧ EMd w3 e s' w7) := by
        obtain ⟨e', g1, g2, g3, g4, g5, g6⟩ := HEM.out
        exact ⟨(Ch.ofBelow (S := fun _ => False) hb7).owns HR6.out (fun _ _ => id), e', g1.below hb7, g2, g3, g4, g5, g6.trans (Ch.ofBelow (S := fun _ => False) hb7) (fun _ _ q => q.elim)⟩
      obtain ⟨t1, t2⟩ := HT.out w7 HR7.out.1
      have HL0 : Hid (∃ l : List Int, w7.ownsRow W.heap.size 5 1 (.slice (some ⟨lb, 0, none⟩) (n + 3) lc) (n + 3) (l.map (Value.int .u8)) ∧ (∃ e', EOk w7 e' ∧ e'.H = e.H ∧ e'.R = e.R ∧ e'.s = s' ∧ (∀ x, EB e' x → EB e x ∨ w3.heap.size ≤ x) ∧ Ch (EB e) w w7)) := by
        obtain ⟨h1, e', g1, g2, g3, g4, g5, g6⟩ := HR7.out
        exact ⟨_, h1, e', g1, g2, g3, g4, g5, (Ch.ofBelow (S := EB e) H3.out.2.1).trans g6 (fun _ _ q => q)⟩
      clear hb7 QS HEM HC6 HR6 hfF hfG HR7 HT
      go_wp2
      go_loopw [14] (fun ix wr => ∃ k : Nat, k ≤ n + 3 ∧ ix = .int .i64 (k : Int) ∧ Hid (∃ l : List Int, wr.ownsRow W.heap.size 5 1 (.slice (some ⟨lb, 0, none⟩) (n + 3) lc) (n + 3) (l.map (Value.int .u8)) ∧ (∃ e', EOk wr e' ∧ e'.H = e.H ∧ e'.R = e.R ∧ e'.s = s' ∧ (∀ x, EB e' x → EB e x ∨ w3.heap.size ≤ x) ∧ Ch (EB e) w wr))) (fun ix _ => n + 3 - (intOf ix).toNat)
      case atStart => exact ⟨0, Nat.zero_le _, rfl, HL0⟩
      case round =>
        obtain ⟨k, hk, rfl, HK⟩ := hrel
        clear HL0 t1 t2
        by_cases hge : n + 3 ≤ k
        · have d0 : ¬ (k : Int) < ((n + 3 : Nat) : Int) := by omega
          clear hge
          go_wp2
          go_ret
          refine ⟨rfl, ?_⟩
          obtain ⟨_, _, e', g1, g2, g3, g4, g5, g6⟩ := HK.out
          refine ⟨e', g1, g2, g3, g4, fun x hx => ?_, g6⟩
          rcases g5 x hx with z | z
          · exact .inl z
          · exact .inr (Nat.le_trans H3.out.2.1.size z)
        · have d0 : (k : Int) < ((n + 3 : Nat) : Int) := by omega
          obtain ⟨l, hl, hem⟩ := HK.out
          have hll : l.length = n + 3 := by have := hl.1; rw [List.length_map] at this; omega
          have hkl : k < l.length := by omega
          have cg := hl.cellAt k (by omega)
          rw [List.getElem?_map, List.getElem?_eq_getElem hkl, Option.map_some] at cg
          obtain ⟨z, hz⟩ : ∃ z, z = l[k] := ⟨_, rfl⟩
          rw [← hz] at cg
          have fg := hl.frozenAt k
          have HNX : Hid (∀ y : Int, ∃ l' : List Int, (wr.setCell ⟨lb, k, none⟩ (.int .u8 y)).ownsRow W.heap.size 5 1 (.slice (some ⟨lb, 0, none⟩) (n + 3) lc) (n + 3) (l'.map (Value.int .u8)) ∧ (∃ e', EOk (wr.setCell ⟨lb, k, none⟩ (.int .u8 y)) e' ∧ e'.H = e.H ∧ e'.R = e.R ∧ e'.s = s' ∧ (∀ x, EB e' x → EB e x ∨ w3.heap.size ≤ x) ∧ Ch (EB e) w (wr.setCell ⟨lb, k, none⟩ (.int .u8 y)))) := by
            intro y
            refine ⟨l.set k y, ?_, ?_⟩
            · have := (hl.stored k (.int .u8 y)).1
              rwa [← List.map_set] at this
            · obtain ⟨e', g1, g2, g3, g4, g5, g6⟩ := hem
              have kk : Ch (fun q => q = lb) wr (wr.setCell ⟨lb, k, none⟩ (.int .u8 y)) := (Ch.refl _ wr).set _ _ rfl
              have hl1 := HLB.out
              refine ⟨e', g1.ch kk (fun x hx q => ?_), g2, g3, g4, g5, g6.trans kk (fun x hx q => ?_)⟩
              · have q' : x = lb := q
                rcases g5 x hx with y | y
                · have h1 := HBB.out.2.1 x y
                  have h2 := HBB.out.1
                  omega
                · omega
              · have q' : x = lb := q
                have h1 := HE.out.2.size
                omega
          clear hge hl hem hll hkl hz HK
          go_wp2
          go_roundw
          case rel => exact ⟨k + 1, by omega, by go_num, HNX.out _⟩
          case measure => simp [intOf]; omega
end H11
end Go.Proofs.Ytcoaghcmbhogjaa
namespace Go.Proofs.Ytcoaghcmbhogjaa
open Go.RowKit Go.Maps
namespace H11
def PsAt (w : World) (O : Nat) (C : Array Value) : Prop := w.heap[O]? = some (.cells C 66 (0, 0))
theorem PsAt.lt {w : World} {O : Nat} {C : Array Value} (k : PsAt w O C) : O < w.heap.size := (Array.getElem?_eq_some_iff.1 k).1
theorem PsAt.ch {w : World} {O : Nat} {C : Array Value} (k : PsAt w O C) {S : Nat → Prop} {w' : World} (h : Ch S w w') (hS : ¬ S O) : PsAt w' O C := (h.block O k.lt hS).trans k
theorem PsAt.cell {w : World} {O : Nat} {C : Array Value} (k : PsAt w O C) (i : Nat) : w.cell? ⟨O, i, none⟩ = C[i]? := by unfold PsAt at k; simp [World.cell?, k]
theorem PsAt.fz {w : World} {O : Nat} {C : Array Value} (k : PsAt w O C) (j : Nat) : w.frozen? ⟨O, j, none⟩ = false := by unfold PsAt at k; simp [World.frozen?, k]
def psV (a b : Ent) : Array Value := #[.pointer (some ⟨a.H, 0, none⟩), .pointer (some ⟨a.R, 0, none⟩), .pointer (some ⟨b.H, 0, none⟩), .pointer (some ⟨b.R, 0, none⟩)]
structure HPl (W : World) (k : Nat) (p : Nat → Ent) (sz ia ib PS BK : Nat) (b : BV) (w : World) : Prop where
  ok : ∀ i, i < sz → EOk w (p i)
  tk : ∀ i, i < sz → (p i).s.tk.length ≤ k
  lo : ∀ i, i < sz → ∀ x, EB (p i) x → W.heap.size ≤ x
  dj : ∀ i j, i < sz → j < sz → i ≠ j → ∀ x, EB (p i) x → ¬ EB (p j) x
  ha : ia < sz
  hb : ib < sz
  ps : PsAt w PS (psV (p ia) (p ib))
  psl : W.heap.size ≤ PS
  psn : ∀ i, i < sz → ¬ EB (p i) PS
  bk : BkM w BK b
  mb : b.Mb = b.E.map (fun r => r.2.2)
  mg : b.Mg = b.G.map (fun r => r.2.2)
  le : b.E.length ≤ 4 * k
  lg : b.G.length ≤ 4 * k
  bl : ∀ x, BB BK b x → W.heap.size ≤ x
  bd : ∀ i, i < sz → ∀ x, BB BK b x → ¬ EB (p i) x
  bp : ¬ BB BK b PS
  bel : Below W.heap.size W w
section
variable {W : World} {k : Nat} {p : Nat → Ent} {sz ia ib PS BK : Nat} {b : BV} {w : World} (h : HPl W k p sz ia ib PS BK b w)
include h
theorem HPl.below {w' : World} (c : Below w.heap.size w w') : HPl W k p sz ia ib PS BK b w' where
  ok := fun i hi => (h.ok i hi).below c
  tk := h.tk
  lo := h.lo
  dj := h.dj
  ha := h.ha
  hb := h.hb
  ps := h.ps.ch (Ch.ofBelow (S := fun _ => False) c) id
  psl := h.psl
  psn := h.psn
  bk := h.bk.below c
  mb := h.mb
  mg := h.mg
  le := h.le
  lg := h.lg
  bl := h.bl
  bd := h.bd
  bp := h.bp
  bel := h.bel.trans (c.mono h.bel.size)
theorem HPl.next : HPl W (k + 1) p sz ia ib PS BK b w where
  ok := h.ok
  tk := fun i hi => Nat.le_succ_of_le (h.tk i hi)
  lo := h.lo
  dj := h.dj
  ha := h.ha
  hb := h.hb
  ps := h.ps
  psl := h.psl
  psn := h.psn
  bk := h.bk
  mb := h.mb
  mg := h.mg
  le := by have := h.le; omega
  lg := by have := h.lg; omega
  bl := h.bl
  bd := h.bd
  bp := h.bp
  bel := h.bel
/-- a call that changes one pair -/
theorem HPl.put {w' : World} {s' : HS} (i : Nat) (hi : i < sz) (m : EMd w (p i) s' w') (ht : s'.tk.length ≤ k + 1) : ∃ p', HPl W (k + 1) p' sz ia ib PS BK b w' := by
  obtain ⟨e', m1, m2, m3, m4, m5, m6⟩ := m
  have hsz := h.bel.size
  have nw : ∀ j, j < sz → j ≠ i → ∀ x, EB (p j) x → ¬ EB e' x := by
    intro j hj hji x hx q
    rcases m5 x q with z | z
    · exact h.dj j i hj hi hji x hx z
    · have := (h.ok j hj).lt x hx; omega
  have eq : psV (if ia = i then e' else p ia) (if ib = i then e' else p ib) = psV (p ia) (p ib) := by
    unfold psV
    by_cases c1 : ia = i <;> by_cases c2 : ib = i <;> simp [c1, c2, m2, m3]
  refine ⟨fun j => if j = i then e' else p j, ?_⟩
  have key : ∀ j, j < sz → ∀ x, EB (if j = i then e' else p j) x → (j = i ∧ EB e' x) ∨ (j ≠ i ∧ EB (p j) x) := by
    intro j _ x hx
    by_cases c : j = i
    · rw [if_pos c] at hx; exact .inl ⟨c, hx⟩
    · rw [if_neg c] at hx; exact .inr ⟨c, hx⟩
  refine ⟨?_, ?_, ?_, ?_, h.ha, h.hb, ?_, h.psl, ?_, h.bk.ch m6 (fun x hx q => h.bd i hi x hx q), h.mb, h.mg, by have := h.le; omega, by have := h.lg; omega, h.bl, ?_, h.bp, h.bel.trans (m6.below (h.lo i hi) hsz)⟩
  · intro j hj
    by_cases c : j = i
    · simp only [c, if_true]; exact m1
    · simp only [if_neg c]; exact (h.ok j hj).ch m6 (fun x hx q => h.dj j i hj hi c x hx q)
  · intro j hj
    by_cases c : j = i
    · simp only [c, if_true, m4]; exact ht
    · simp only [if_neg c]; exact Nat.le_succ_of_le (h.tk j hj)
  · intro j hj x hx
    rcases key j hj x hx with ⟨_, z⟩ | ⟨_, z⟩
    · rcases m5 x z with y | y
      · exact h.lo i hi x y
      · exact Nat.le_trans hsz y
    · exact h.lo j hj x z
  · intro j l hj hl hne x hx q
    rcases key j hj x hx with ⟨c1, z⟩ | ⟨c1, z⟩
    · rcases key l hl x q with ⟨c2, y⟩ | ⟨c2, y⟩
      · exact hne (c1.trans c2.symm)
      · exact nw l hl c2 x y z
    · rcases key l hl x q with ⟨c2, y⟩ | ⟨c2, y⟩
      · exact nw j hj c1 x z y
      · exact h.dj j l hj hl hne x z y
  · have hps := h.ps.ch m6 (fun q => h.psn i hi q)
    show PsAt w' PS (psV (if ia = i then e' else p ia) (if ib = i then e' else p ib))
    rw [eq]
    exact hps
  · intro j hj q
    rcases key j hj PS q with ⟨_, z⟩ | ⟨_, z⟩
    · rcases m5 PS z with y | y
      · exact h.psn i hi y
      · have := h.ps.lt; omega
    · exact h.psn j hj z
  · intro j hj x hx q
    rcases key j hj x q with ⟨_, z⟩ | ⟨_, z⟩
    · rcases m5 x z with y | y
      · exact h.bd i hi x hx y
      · have := h.bk.lt x hx; omega
    · exact h.bd j hj x hx z
/-- a call that changes the book -/
theorem HPl.ask {w' : World} (m : BkE w BK b w') : ∃ b', HPl W (k + 1) p sz ia ib PS BK b' w' := by
  obtain ⟨b', m1, m2, m3, m4, m5, m6, m7⟩ := m
  have hsz := h.bel.size
  refine ⟨b', ⟨fun i hi => (h.ok i hi).ch m7 (fun x hx q => h.bd i hi x q hx), fun i hi => Nat.le_succ_of_le (h.tk i hi), h.lo, h.dj, h.ha, h.hb, h.ps.ch m7 h.bp, h.psl, h.psn, m1, m2, m3, by have := h.le; omega, by have := h.lg; omega, ?_, ?_, ?_, h.bel.trans (m7.below h.bl hsz)⟩⟩
  · intro x hx
    rcases m6 x hx with z | z
    · exact h.bl x z
    · exact Nat.le_trans hsz z
  · intro i hi x hx q
    rcases m6 x hx with z | z
    · exact h.bd i hi x z q
    · have := (h.ok i hi).lt x q; omega
  · intro q
    rcases m6 PS q with z | z
    · exact h.bp z
    · have := h.ps.lt; omega
/-- a new pair takes one of the two places -/
theorem HPl.new {w1 w2 : World} {e : Ent} (c : Below w.heap.size w w1) (he : EOk w1 e) (hlo : ∀ x, EB e x → w.heap.size ≤ x) (ht : e.s.tk.length ≤ k + 1) (ja jb : Nat) (hj : ja ≤ sz ∧ jb ≤ sz) (c2 : Ch (fun q => q = PS) w1 w2) (hps : PsAt w2 PS (psV (if ja = sz then e else p ja) (if jb = sz then e else p jb))) : HPl W (k + 1) (fun j => if j = sz then e else p j) (sz + 1) ja jb PS BK b w2 := by
  have h1 := h.below c
  have hsz := h.bel.size
  have nlt : ∀ {j}, j < sz + 1 → j ≠ sz → j < sz := by intro j a b; omega
  have key : ∀ j, j < sz + 1 → ∀ x, EB (if j = sz then e else p j) x → (j = sz ∧ EB e x) ∨ (j < sz ∧ EB (p j) x) := by
    intro j hj x hx
    by_cases q : j = sz
    · rw [if_pos q] at hx; exact .inl ⟨q, hx⟩
    · rw [if_neg q] at hx; exact .inr ⟨nlt hj q, hx⟩
  have npe : ¬ EB e PS := fun q => by have := hlo PS q; have := h.ps.lt; omega
  refine ⟨?_, ?_, ?_, ?_, by omega, by omega, hps, h.psl, ?_, h1.bk.ch c2 (fun x hx q => h.bp (by have q' : x = PS := q; rw [← q']; exact hx)), h.mb, h.mg, by have := h.le; omega, by have := h.lg; omega, h.bl, ?_, h.bp, h1.bel.trans (c2.below (fun x q => by have q' : x = PS := q; rw [q']; exact h.psl) h1.bel.size)⟩
  · intro j hj
    by_cases q : j = sz
    · simp only [q, if_true]; exact he.ch c2 (fun x hx z => npe (by have z' : x = PS := z; rw [← z']; exact hx))
    · simp only [if_neg q]; exact (h1.ok j (nlt hj q)).ch c2 (fun x hx z => h.psn j (nlt hj q) (by have z' : x = PS := z; rw [← z']; exact hx))
  · intro j hj
    by_cases q : j = sz
    · simp only [q, if_true]; exact ht
    · simp only [if_neg q]; exact Nat.le_succ_of_le (h.tk j (nlt hj q))
  · intro j hj x hx
    rcases key j hj x hx with ⟨_, z⟩ | ⟨z1, z⟩
    · exact Nat.le_trans hsz (hlo x z)
    · exact h.lo j z1 x z
  · intro j l hj' hl hne x hx q
    rcases key j hj' x hx with ⟨c1, z⟩ | ⟨c1, z⟩
    · rcases key l hl x q with ⟨c3, y⟩ | ⟨c3, y⟩
      · exact hne (c1.trans c3.symm)
      · have := hlo x z; have := (h.ok l c3).lt x y; omega
    · rcases key l hl x q with ⟨c3, y⟩ | ⟨c3, y⟩
      · have := hlo x y; have := (h.ok j c1).lt x z; omega
      · exact h.dj j l c1 c3 hne x z y
  · intro j hj q
    rcases key j hj PS q with ⟨_, z⟩ | ⟨z1, z⟩
    · exact npe z
    · exact h.psn j z1 z
  · intro j hj x hx q
    rcases key j hj x q with ⟨_, z⟩ | ⟨z1, z⟩
    · have := hlo x z; have := h.bk.lt x hx; omega
    · exact h.bd j z1 x hx z
end
end H11
end Go.Proofs.Ytcoaghcmbhogjaa
namespace Go.Proofs.Ytcoaghcmbhogjaa
open Go.RowKit
open Go.ChangeShapes Go.WideShapes Go.ChangeAt

/-- a step -/
structure StV where
  kd : Int
  ob : Int
  off : Int
  a : Option Addr
  cap : Nat
  bs : List Nat
  more : Bool
def StV.cells (o : StV) : List Value := [.int .i64 o.kd, .int .i64 o.ob, .int .i64 o.off, .slice o.a o.bs.length o.cap, .bool o.more]
structure StOk (W : World) (o : StV) : Prop where
  seg : Seg .u8 W o.a (toI o.bs)
  b8 : ∀ x ∈ o.bs, x < 256
  le : o.bs.length ≤ o.cap
  cap : o.cap ≤ 1048576
theorem Try.cellsStV : Try.prog.cellsOf 68 = 5 := by kernel_rfl
def StsU (W : World) (a : Option Addr) (ts : List StV) : Prop := ListG 5 StV.cells (StOk W) W a ts
section
variable {H : Type} {enc : TypeId × Value → H} {W : World}
theorem open_st (fuel : Nat) (cs : List Value) (x : DataW H × List MemPlace) (hf : DataW.trod enc Try.prog W 0 (fun _ => true) true fuel 68 cs = some x) (hbk : Rows.uptoBulk x.1 ≤ 1048576) : ∃ o : StV, cs = o.cells ∧ StOk W o := by
  obtain ⟨xs, n, _, hx, hl, hlen, hfs⟩ := DataW.trod_struct Try.underlying68 hf
  rw [Try.cellsStV] at hl
  have f0 : DataW.trod enc Try.prog W 0 (fun _ => true) true n 3 ((cs.drop 0).take (Try.prog.cellsOf 3)) = xs[0]? := hfs 0 _ rfl
  have f1 : DataW.trod enc Try.prog W 0 (fun _ => true) true n 3 ((cs.drop 1).take (Try.prog.cellsOf 3)) = xs[1]? := hfs 1 _ rfl
  have f2 : DataW.trod enc Try.prog W 0 (fun _ => true) true n 3 ((cs.drop 2).take (Try.prog.cellsOf 3)) = xs[2]? := hfs 2 _ rfl
  have f3 : DataW.trod enc Try.prog W 0 (fun _ => true) true n 22 ((cs.drop 3).take (Try.prog.cellsOf 22)) = xs[3]? := hfs 3 _ rfl
  have f4 : DataW.trod enc Try.prog W 0 (fun _ => true) true n 4 ((cs.drop 4).take (Try.prog.cellsOf 4)) = xs[4]? := hfs 4 _ rfl
  have hxl : xs.length = 5 := hlen
  rw [Try.cellsIn] at f0 f1 f2
  rw [Try.cellsRw] at f3
  rw [Try.cellsBl] at f4
  rw [List.getElem?_eq_getElem (by omega)] at f0 f1 f2 f3 f4
  have hd : x.1 = .agg (xs.map (·.1)) := (Prod.mk.inj hx).1
  have hb1 : Rows.uptoBulk xs[3].1 ≤ 1048576 := by
    have := bulk_memG (d := xs[3].1) (l := xs.map (·.1)) (List.mem_map.2 ⟨xs[3], List.getElem_mem (by omega), rfl⟩)
    rw [hd] at hbk
    simp only [Rows.uptoBulk] at hbk
    omega
  obtain ⟨c0, c1, c2, c3, c4, rfl⟩ : ∃ c0 c1 c2 c3 c4, cs = [c0, c1, c2, c3, c4] := match cs, hl with | [a, b, c, d, e], _ => ⟨a, b, c, d, e, rfl⟩
  simp only [List.drop_zero, List.drop_succ_cons, List.take_succ_cons, List.take_zero] at f0 f1 f2 f3 f4
  obtain ⟨z0, e0, _, _⟩ := DataW.trod_int Try.underlying3 f0
  obtain ⟨z1, e1, _, _⟩ := DataW.trod_int Try.underlying3 f1
  obtain ⟨z2, e2, _, _⟩ := DataW.trod_int Try.underlying3 f2
  obtain ⟨sm, e4, _⟩ := DataW.trod_bool Try.underlying4 f4
  obtain ⟨ba, bn, bc, zs, e3, hrow, hcap⟩ := open_rowG Try.underlying22 Try.underlying5 (by kernel_rfl) f3
  obtain ⟨bs, hbl, hseg, h1, h2, h3⟩ := hrow.bytes
  simp only [List.cons.injEq, and_true] at e0 e1 e2 e4
  refine ⟨⟨z0, z1, z2, ba, bc, bs, sm⟩, ?_, ⟨hseg, h3, by show bs.length ≤ bc; omega, by show bc ≤ _; omega⟩⟩
  rw [e0, e1, e2, e3, e4]
  unfold StV.cells
  simp only
  rw [hbl]
theorem open_steps {fuel : Nat} {a : Option Addr} {len cap : Nat} {d : DataW H} {p : List MemPlace} (hf : DataW.trod enc Try.prog W 0 (fun _ => true) true fuel 53 [.slice a len cap] = some (d, p)) (hb : Rows.uptoBulk d ≤ 1048576) :
    ∃ rs : List StV, rs.length = len ∧ ListG 5 StV.cells (StOk W) W a rs ∧ len ≤ 1048576 :=
  open_list 5 StV.cells (StOk W) Try.underlying53 Try.cellsStV (by decide) (fun _ => rfl) open_st hf hb
end
namespace H11
theorem sts_at {W : World} {a : Option Addr} {ops : List StV} (h : StsU W a ops) (i : Nat) (hi : i < ops.length) : ∃ b off, a = some ⟨b, off, none⟩ ∧ b < W.heap.size ∧ StOk W ops[i] ∧ W.cell? ⟨b, off + i * 5, none⟩ = some (.int .i64 ops[i].kd) ∧ W.cell? ⟨b, off + i * 5 + 1, none⟩ = some (.int .i64 ops[i].ob) ∧ W.cell? ⟨b, off + i * 5 + 2, none⟩ = some (.int .i64 ops[i].off) ∧ W.cell? ⟨b, off + i * 5 + 3, none⟩ = some (.slice ops[i].a ops[i].bs.length ops[i].cap) ∧ W.cell? ⟨b, off + i * 5 + 4, none⟩ = some (.bool ops[i].more) := by
  rcases h with rfl | ⟨b, off, ha, hlt, hc⟩
  · simp at hi
  · obtain ⟨k1, k2⟩ := hc i ops[i] (List.getElem?_eq_getElem hi)
    exact ⟨b, off, ha, hlt, k1, k2 0 (by omega), k2 1 (by omega), k2 2 (by omega), k2 3 (by omega), k2 4 (by omega)⟩
theorem and1 (n : Int) : bits .and .i64 n 1 = n % 2 := by
  have h1 : (BitVec.ofInt 64 1).toNat = 2 ^ 1 - 1 := by decide
  have key : (BitVec.ofInt 64 n &&& BitVec.ofInt 64 1).toNat = (n % ((2 ^ 64 : Nat) : Int)).toNat % 2 ^ 1 := by
    rw [BitVec.toNat_and, BitVec.toNat_ofInt, h1, Nat.and_two_pow_sub_one_eq_mod]
  show IntKind.i64.wrap ((BitVec.ofInt 64 n &&& BitVec.ofInt 64 1).toNat : Nat) = n % 2
  rw [key, IntKind.wrap_i64]
  omega
end H11
end Go.Proofs.Ytcoaghcmbhogjaa
namespace Go.Proofs.Ytcoaghcmbhogjaa
open Go.RowKit Go.Maps
namespace H11
theorem EMd.open {w w' : World} {e : Ent} {s' : HS} (m : EMd w e s' w') : ∃ v' u', EOk w' ⟨e.H, e.R, s', v', u'⟩ ∧ (∀ x, EB ⟨e.H, e.R, s', v', u'⟩ x → EB e x ∨ w.heap.size ≤ x) ∧ Ch (EB e) w w' := by
  obtain ⟨⟨H, R, s, v, u⟩, m1, m2, m3, m4, m5, m6⟩ := m
  simp only at m2 m3 m4
  subst m2 m3 m4
  exact ⟨v, u, m1, m5, m6⟩
def bz0 : BV := ⟨.slice none 0 0, .slice none 0 0, .slice none 0 0, .slice none 0 0, [], [], [], []⟩
theorem bz0_bb {BK x : Nat} (h : BB BK bz0 x) : x = BK := by
  rcases h with h | h | h | h | h | ⟨r, hr, _⟩ | ⟨r, hr, _⟩
  · exact h
  · simp [bz0, Value.ownBlock] at h
  · simp [bz0, Value.ownBlock] at h
  · simp [bz0, Value.ownBlock] at h
  · simp [bz0, Value.ownBlock] at h
  · simp [bz0] at hr
  · simp [bz0] at hr
theorem bk_new (w w' : World) (hw : w' = w.alloc (.cells #[.slice none 0 0, .slice none 0 0, .slice none 0 0, .slice none 0 0] 65)) : BkM w' w.heap.size bz0 := by
  have hB : w'.heap[w.heap.size]? = some (.cells #[.slice none 0 0, .slice none 0 0, .slice none 0 0, .slice none 0 0] 65 (0, 0)) := by rw [hw]; exact heap_alloc_new _ _
  have hcell : ∀ j, w'.cell? ⟨w.heap.size, j, none⟩ = (#[.slice none 0 0, .slice none 0 0, .slice none 0 0, .slice none 0 0] : Array Value)[j]? := by
    intro j; simp [World.cell?, hB]
  refine ⟨hcell 0, hcell 1, hcell 2, hcell 3, ?_, World.ownsRow_nil _ _ _ _, World.ownsRow_nil _ _ _ _, World.ownsRow_nil _ _ _ _, World.ownsRow_nil _ _ _ _, fun r hr => by simp [bz0] at hr, fun r hr => by simp [bz0] at hr, ?_, fun r hr => by simp [bz0] at hr⟩
  · intro j; simp [World.frozen?, hB]
  · rintro q (h | h | h | h | ⟨r, hr, _⟩ | ⟨r, hr, _⟩)
    · simp [bz0, Value.ownBlock] at h
    · simp [bz0, Value.ownBlock] at h
    · simp [bz0, Value.ownBlock] at h
    · simp [bz0, Value.ownBlock] at h
    · simp [bz0] at hr
    · simp [bz0] at hr
/-- the state ahead of the first step -/
theorem HPl.start {W w : World} {e1 e2 : Ent} {PS BK : Nat} (hb : Below W.heap.size W w) (h1 : EOk w e1) (h2 : EOk w e2) (l1 : ∀ x, EB e1 x → W.heap.size ≤ x) (l2 : ∀ x, EB e2 x → W.heap.size ≤ x) (hd : ∀ x, EB e1 x → ¬ EB e2 x) (k : Nat) (t1 : e1.s.tk.length ≤ k) (t2 : e2.s.tk.length ≤ k) (hps : PsAt w PS (psV e1 e2)) (hpl : W.heap.size ≤ PS) (n1 : ¬ EB e1 PS) (n2 : ¬ EB e2 PS) (hbk : BkM w BK bz0) (hkl : W.heap.size ≤ BK) (n3 : ¬ EB e1 BK) (n4 : ¬ EB e2 BK) (n5 : PS ≠ BK) : HPl W k (fun i => if i = 0 then e1 else e2) 2 0 1 PS BK bz0 w := by
  have key : ∀ i, i < 2 → ∀ x, EB (if i = 0 then e1 else e2) x → (i = 0 ∧ EB e1 x) ∨ (i = 1 ∧ EB e2 x) := by
    intro i hi x hx
    by_cases c : i = 0
    · rw [if_pos c] at hx; exact .inl ⟨c, hx⟩
    · rw [if_neg c] at hx; exact .inr ⟨by omega, hx⟩
  refine ⟨?_, ?_, ?_, ?_, by omega, by omega, hps, hpl, ?_, hbk, rfl, rfl, Nat.zero_le _, Nat.zero_le _, fun x hx => by rw [bz0_bb hx]; exact hkl, ?_, fun q => n5 (bz0_bb q), hb⟩
  · intro i hi
    by_cases c : i = 0
    · simp only [if_pos c]; exact h1
    · simp only [if_neg c]; exact h2
  · intro i hi
    by_cases c : i = 0
    · simp only [if_pos c]; exact t1
    · simp only [if_neg c]; exact t2
  · intro i hi x hx
    rcases key i hi x hx with ⟨_, z⟩ | ⟨_, z⟩
    · exact l1 x z
    · exact l2 x z
  · intro i j hi hj hne x hx q
    rcases key i hi x hx with ⟨c1, z⟩ | ⟨c1, z⟩
    · rcases key j hj x q with ⟨c2, y⟩ | ⟨c2, y⟩
      · omega
      · exact hd x z y
    · rcases key j hj x q with ⟨c2, y⟩ | ⟨c2, y⟩
      · exact hd x y z
      · omega
  · intro i hi q
    rcases key i hi PS q with ⟨_, z⟩ | ⟨_, z⟩
    · exact n1 z
    · exact n2 z
  · intro i hi x hx q
    rw [bz0_bb hx] at q
    rcases key i hi BK q with ⟨_, z⟩ | ⟨_, z⟩
    · exact n3 z
    · exact n4 z
/-- .. where both are one and the same -/
theorem HPl.start1 {W w : World} {e : Ent} {PS BK : Nat} (hb : Below W.heap.size W w) (h1 : EOk w e) (l1 : ∀ x, EB e x → W.heap.size ≤ x) (k : Nat) (t1 : e.s.tk.length ≤ k) (hps : PsAt w PS (psV e e)) (hpl : W.heap.size ≤ PS) (n1 : ¬ EB e PS) (hbk : BkM w BK bz0) (hkl : W.heap.size ≤ BK) (n3 : ¬ EB e BK) (n5 : PS ≠ BK) : HPl W k (fun _ => e) 1 0 0 PS BK bz0 w :=
  ⟨fun _ _ => h1, fun _ _ => t1, fun _ _ => l1, fun i j hi hj hne => absurd (show i = j by omega) hne, by omega, by omega, hps, hpl, fun _ _ => n1, hbk, rfl, rfl, Nat.zero_le _, Nat.zero_le _, fun x hx => by rw [bz0_bb hx]; exact hkl, fun _ _ x hx => by rw [bz0_bb hx]; exact n3, fun q => n5 (bz0_bb q), hb⟩
theorem pS_tk1 (s : HS) (off : Int) (d : List Nat) (more : Bool) {k : Nat} (h : s.tk.length ≤ k) : (pS s off d more).tk.length ≤ k + 1 := Nat.le_trans (pS_tk s off d more) (by omega)
end H11
end Go.Proofs.Ytcoaghcmbhogjaa
namespace Go.Proofs.Ytcoaghcmbhogjaa
open Go.RowKit Go.Maps
namespace H11
theorem yields_pr {ops : Array Oper} {o : Oper} {a : Act} {S : World → Prop} (x : Operand) (ho : o.op = .load 56 x) (g off : Nat) (p q : Option Addr) (hx : a.eval x = .pointer (some ⟨g, off, none⟩)) (hw : Region.wanted o (yielded ops a.tmps) = true) (hS : ∀ w, S w → w.cell? ⟨g, off, none⟩ = some (.pointer p) ∧ w.cell? ⟨g, off + 1, none⟩ = some (.pointer q)) : YieldsIf Try.prog ops S o (.agg #[.pointer p, .pointer q]) a := by
  refine .inl ⟨hw, fun w hb => ?_⟩
  obtain ⟨h1, h2⟩ := hS w hb
  have hu := Try.underlying56
  have hz := Try.sizeOf56
  obtain ⟨dst, op, type, pos, after, guard⟩ := o
  simp only at ho
  subst ho
  simp only [execOp, Sem.run_bind, Sem.run_pure]
  rw [hx]
  simp [Instr.loadAt, go_sem, h1, h2]
theorem long_row : ∃ dd : List Nat, dd.length = 65536 ∧ (∀ x, x ∈ dd → x < 256) ∧ (toI dd).map (Value.int .u8) = (madeCells #[Value.int .u8 0] 65536).toList := by
  refine ⟨List.replicate 65536 0, List.length_replicate, fun x hx => ?_, ?_⟩
  · rw [(List.mem_replicate.1 hx).2]; omega
  · unfold toI
    rw [List.map_replicate, List.map_replicate, toList_madeCells_one]
    congr 1
/-- put of a row that was made just now -/
theorem put_w {wA : World} (w5 : World) {d : List Nat} {ua : Option Addr} (n uc : Nat) (hn : d.length = n) (hn6 : n ≤ 65536) (h8 : ∀ x, x ∈ d → x < 256) (more : Bool) (off : Int) (e : Ent) (he : EOk w5 e) (htk : e.s.tk.length ≤ 100000) (ho : w5.ownsRow wA.heap.size 5 1 (.slice ua n uc) n ((toI d).map (Value.int .u8))) (hlt : ∀ x, EB e x → x < wA.heap.size) :
    Calls Try.prog 22 #[.agg #[.pointer (some ⟨e.H, 0, none⟩), .pointer (some ⟨e.R, 0, none⟩)], .int .i64 off, .slice ua n uc, .bool more] w5 fun r w' => r = .returned (.bool true) ∧ EMd w5 e (pS e.s off d more) w' := by
  obtain ⟨a', c', q1, hsg, _, hc, _⟩ := owns_seg ho (k := .u8)
  simp only [Value.slice.injEq, true_and] at q1
  obtain ⟨rfl, rfl⟩ := q1
  exact put_any w5 e he htk off d ua n uc hn hn6 hc more h8 hsg (fun x _ hx q => by
    have h1 := hlt _ q
    have h2 := (ho.lt x.block (by rw [hx]; rfl)).1
    omega)
end H11
end Go.Proofs.Ytcoaghcmbhogjaa
namespace Go.Proofs.Ytcoaghcmbhogjaa
open Go.RowKit Go.Maps
namespace H11
def pH_ (f : Ent) : Value := .pointer (some ⟨f.H, 0, none⟩)
def pR_ (f : Ent) : Value := .pointer (some ⟨f.R, 0, none⟩)
theorem ps_store {w : World} {PS o : Nat} {a b : Ent} (h : PsAt w PS (psV a b)) (ho : o < 2) (f : Ent) : PsAt ((w.setCell ⟨PS, o * 2, none⟩ (.pointer (some ⟨f.H, 0, none⟩))).setCell ⟨PS, o * 2 + 1, none⟩ (.pointer (some ⟨f.R, 0, none⟩))) PS (psV (if o = 0 then f else a) (if o = 0 then b else f)) := by
  have h1 := heap_setCell_same w PS (o * 2) (psV a b) _ (.pointer (some ⟨f.H, 0, none⟩)) h
  have h2 := heap_setCell_same _ PS (o * 2 + 1) _ _ (.pointer (some ⟨f.R, 0, none⟩)) h1
  unfold PsAt
  rw [h2]
  match o, ho with
  | 0, _ => rfl
  | 1, _ => rfl
theorem HPl.re {W : World} {k : Nat} {p : Nat → Ent} {sz ia ib PS BK : Nat} {b : BV} {w w1 w2 : World} (h : HPl W k p sz ia ib PS BK b w) (c : Below w.heap.size w w1) (ja jb : Nat) (hja : ja < sz) (hjb : jb < sz) (c2 : Ch (fun q => q = PS) w1 w2) (hps : PsAt w2 PS (psV (p ja) (p jb))) : HPl W (k + 1) p sz ja jb PS BK b w2 := by
  have h1 := h.below c
  exact ⟨fun i hi => (h1.ok i hi).ch c2 (fun x hx z => h.psn i hi (by have z' : x = PS := z; rw [← z']; exact hx)), fun i hi => Nat.le_succ_of_le (h.tk i hi), h.lo, h.dj, hja, hjb, hps, h.psl, h.psn, h1.bk.ch c2 (fun x hx q => h.bp (by have q' : x = PS := q; rw [← q']; exact hx)), h.mb, h.mg, by have := h.le; omega, by have := h.lg; omega, h.bl, h.bd, h.bp, h1.bel.trans (c2.below (fun x q => by have q' : x = PS := q; rw [q']; exact h.psl) h1.bel.size)⟩
/-- made's answer: the old pair, or a new one -/
def MdR (w : World) (e f : Ent) (w' : World) : Prop := Below w.heap.size w w' ∧ ((f.H = e.H ∧ f.R = e.R) ∨ (EOk w' f ∧ f.s.tk.length = 0 ∧ ∀ x, EB f x → w.heap.size ≤ x))
theorem made_u (w : World) (m : Int) (e : Ent) : Calls Try.prog 21 #[.int .i64 m, .agg #[.pointer (some ⟨e.H, 0, none⟩), .pointer (some ⟨e.R, 0, none⟩)]] w fun r w' => ∃ f : Ent, r = .returned (.tuple #[.agg #[.pointer (some ⟨f.H, 0, none⟩), .pointer (some ⟨f.R, 0, none⟩)], .bool true]) ∧ MdR w e f w' := by
  by_cases hm : 1 ≤ m ∧ m ≤ 65535
  · obtain ⟨n, hn⟩ : ∃ n : Nat, (n : Int) = m := ⟨m.toNat, by omega⟩
    subst hn
    refine (made_yes w n (by omega) (by omega) _ _).mono ?_
    rintro r w' ⟨f, rfl, g1, g2, g3, g4⟩
    exact ⟨f, rfl, g4, .inr ⟨g1, by rw [g2]; rfl, g3⟩⟩
  · refine (made_no w m hm _ _).mono ?_
    rintro r w' ⟨rfl, g4⟩
    exact ⟨e, rfl, g4, .inl ⟨rfl, rfl⟩⟩
/-- the pool behind it -/
theorem HPl.made {W : World} {k : Nat} {p : Nat → Ent} {sz ia ib PS BK o : Nat} {b : BV} {w w1 : World} {f : Ent} (h : HPl W k p sz ia ib PS BK b w) (ho : o < 2) (m : MdR w (p (if o = 0 then ia else ib)) f w1) : ∃ p' sz' ia' ib', HPl W (k + 1) p' sz' ia' ib' PS BK b ((w1.setCell ⟨PS, o * 2, none⟩ (.pointer (some ⟨f.H, 0, none⟩))).setCell ⟨PS, o * 2 + 1, none⟩ (.pointer (some ⟨f.R, 0, none⟩))) := by
  have c2 : Ch (fun q => q = PS) w1 ((w1.setCell ⟨PS, o * 2, none⟩ (.pointer (some ⟨f.H, 0, none⟩))).setCell ⟨PS, o * 2 + 1, none⟩ (.pointer (some ⟨f.R, 0, none⟩))) := ((Ch.refl (fun q => q = PS) w1).set ⟨PS, o * 2, none⟩ _ rfl).set ⟨PS, o * 2 + 1, none⟩ _ rfl
  have hps := ps_store (h.below m.1).ps ho f
  rcases m.2 with ⟨e1, e2⟩ | ⟨g1, g2, g3⟩
  · refine ⟨p, sz, ia, ib, h.re m.1 ia ib h.ha h.hb c2 ?_⟩
    have e : psV (if o = 0 then f else p ia) (if o = 0 then p ib else f) = psV (p ia) (p ib) := by
      unfold psV
      by_cases c : o = 0
      · simp only [c, if_true] at e1 e2 ⊢; rw [e1, e2]
      · simp only [c, if_false] at e1 e2 ⊢; rw [e1, e2]
    rw [e] at hps
    exact hps
  · have ha := h.ha
    have hb := h.hb
    refine ⟨_, _, if o = 0 then sz else ia, if o = 0 then ib else sz, h.new m.1 g1 g3 (by omega) _ _ ?_ c2 ?_⟩
    · by_cases c : o = 0 <;> simp [c] <;> omega
    · by_cases c : o = 0
      · simp only [c, if_true] at hps ⊢
        rw [if_neg (by omega)]
        exact hps
      · simp only [c, if_false, if_true] at hps ⊢
        rw [if_neg (by omega)]
        exact hps
end H11
end Go.Proofs.Ytcoaghcmbhogjaa
namespace Go.Proofs.Ytcoaghcmbhogjaa.MixL
open Go.Proofs.Ytcoaghcmbhogjaa.Mix

section
variable {P : Program} {ops : Array Oper} {Q : Exit → Act → World → Prop} {S : World → Prop} {j0 : Nat}

/-- whatever comes up, the condition holds behind it as long as number j0 has not come up -/
def wpL (P : Program) (ops : Array Oper) (Q : Exit → Act → World → Prop) (S : World → Prop) (j0 : Nat) : Nat → Array Bool → Act → World → Prop
  | 0, listed, a, w => Region.ready .any ops listed = [] ∧ Q .normal a w
  | fuel + 1, listed, a, w =>
    (Region.ready .any ops listed = [] → Q .normal a w) ∧
    ∀ i ∈ Region.ready .any ops listed, wpOp P ops Q i (fun a' w' => ((listed.setIfInBounds i true).getD j0 true = false → S w') ∧ wpL P ops Q S j0 fuel (listed.setIfInBounds i true) a' w') a w
theorem toAny : ∀ (fuel : Nat) (listed : Array Bool) (a : Act) (w : World), wpL P ops Q S j0 fuel listed a w → wpAny P .any ops Q fuel listed a w
  | 0, _, _, _, h => h
  | fuel + 1, _, _, _, h => ⟨h.1, fun i hi => wpOp_mono (fun a' w' h' => toAny fuel _ a' w' h'.2) (h.2 i hi)⟩

/-- one that yields, and that j0 waits for, goes first -/
theorem first {i : Nat} {oi : Oper} {v : Value} (hi : ops[i]? = some oi) (hsel : ∀ (j : Nat) (o : Oper) cs b, ops[j]? = some o → o.op ≠ .select cs b)
    (hQ : ∀ c a w, Q (.panic c) (a.put oi.dst v) w → Q (.panic c) a w) (h0i : i ≠ j0) (hwait : ∀ o0, ops[j0]? = some o0 → ∃ e ∈ o0.after, Region.binds .any e = true ∧ e.on = i) :
    ∀ (fuel : Nat) (listed : Array Bool) (a : Act) (w : World),
      (∀ j oj, ops[j]? = some oj → j ≠ i → listed.getD j true = false → (∀ e ∈ oj.after, Region.binds .any e = true → e.on ≠ i) → oi.apart ops oj = true) →
      listed.getD j0 true = false → i ∈ Region.ready .any ops listed → YieldsIf P ops S oi v a → S w →
      wpL P ops Q S j0 fuel (listed.setIfInBounds i true) (a.put oi.dst v) w → wpL P ops Q S j0 (fuel + 1) listed a w := by
  intro fuel
  induction fuel with
  | zero =>
    intro listed a w _ _ hr hy hS H
    refine ⟨fun h => (by rw [h] at hr; cases hr), fun j hj => ?_⟩
    by_cases hji : j = i
    · rw [hji]; exact hy.wpOp hi hS ⟨fun _ => hS, H⟩
    · have := ready_mono hj hji
      rw [H.1] at this
      cases this
  | succ fuel ih =>
    intro listed a w hfree hnl hr hy hS H
    refine ⟨fun h => (by rw [h] at hr; cases hr), fun j hj => ?_⟩
    by_cases hji : j = i
    · rw [hji]; exact hy.wpOp hi hS ⟨fun _ => hS, H⟩
    · have h1 := H.2 j (ready_mono hj hji)
      obtain ⟨hjun, oj, hoj, hall⟩ := mem_ready.1 hj
      have hnot : ∀ e ∈ oj.after, Region.binds .any e = true → e.on ≠ i := fun e he hb heq => by
        have h1 := hall e he hb
        have h0 := (mem_ready.1 hr).1
        rw [heq] at h1
        rcases Nat.lt_or_ge i listed.size with h' | h'
        · simp [h'] at h0 h1; rw [h0] at h1; cases h1
        · simp [Array.getElem?_eq_none h'] at h1
      have hj0 : j ≠ j0 := by
        intro e
        obtain ⟨e1, he1, hb1, ho1⟩ := hwait oj (by rw [← e]; exact hoj)
        exact hnot e1 he1 hb1 ho1
      have h2 := wpOp_putIf hoj (hfree j oj hoj hji hjun hnot) (fun cs b => hsel i oi cs b hi) (fun cs b => hsel j oj cs b hoj) hQ hy h1
      have hfree' : ∀ k ok, ops[k]? = some ok → k ≠ i → (listed.setIfInBounds j true).getD k true = false →
          (∀ e ∈ ok.after, Region.binds .any e = true → e.on ≠ i) → oi.apart ops ok = true := fun k ok hk hki hun hno => by
        refine hfree k ok hk hki ?_ hno
        by_cases hjk : j = k
        · rw [← hjk]; exact hjun
        · rw [getD_set_ne true hjk] at hun; exact hun
      have hnl' : (listed.setIfInBounds j true).getD j0 true = false := by rw [getD_set_ne true hj0]; exact hnl
      have hnl2 : ((listed.setIfInBounds i true).setIfInBounds j true).getD j0 true = false := by rw [getD_set_ne true hj0, getD_set_ne true h0i]; exact hnl
      refine wpOp_mono (fun a' w' h3 => ⟨fun _ => h3.2.1 hnl2, ih (listed.setIfInBounds j true) a' w' hfree' hnl' (ready_mono hr (Ne.symm hji)) h3.1 (h3.2.1 hnl2) ?_⟩) h2
      rw [Array.setIfInBounds_comm _ _ hji]
      exact h3.2.2
end

def waitsB (l : List Oper) (j0 i : Nat) : Bool := match l[j0]? with | some o0 => o0.after.any (fun e => Region.binds .any e && e.on == i) | none => true
theorem waits {l : List Oper} {j0 i : Nat} (h : waitsB l j0 i = true) : ∀ o0, l.toArray[j0]? = some o0 → ∃ e ∈ o0.after, Region.binds .any e = true ∧ e.on = i := by
  intro o0 ho
  unfold waitsB at h
  have ho' : l[j0]? = some o0 := by simpa using ho
  rw [ho'] at h
  simp only [Array.any_eq_true', Bool.and_eq_true, beq_iff_eq] at h
  obtain ⟨e, he, h1, h2⟩ := h
  exact ⟨e, he, h1, h2⟩
theorem start {P : Program} {l : List Oper} {Q : Exit → Act → World → Prop} {a : Act} {w : World} {id : Nat} (S : World → Prop) (j0 : Nat) (hm : P.follows .mixedOrders = true)
    (h : wpL P l.toArray (only Q) S j0 l.length (Array.replicate l.length false) a w.drew) : (Code.region id l.toArray true).wp P Q a w :=
  Mix.start hm (toAny _ _ _ _ h)
theorem take {P : Program} {l : List Oper} {Q : Exit → Act → World → Prop} {S : World → Prop} {j0 F : Nat} {listed : Array Bool} {a : Act} {w : World} (fuel i : Nat) (o : Oper) (v : Value) (hi : l[i]? = some o) (hs : Region.noSelect l.toArray = true) (hf : Region.free .any l.toArray listed i = true) (hr : (Region.ready .any l.toArray listed).contains i = true) (hF : F = fuel + 1) (h0 : (i != j0) = true) (hw : waitsB l j0 i = true) (hnl : listed.getD j0 true = false)
    (hy : YieldsIf P l.toArray S o v a) (hS : S w) (h : ∀ a', a' = a.put o.dst v → wpL P l.toArray (only Q) S j0 fuel (listed.setIfInBounds i true) a' w) : wpL P l.toArray (only Q) S j0 F listed a w := by
  subst hF
  exact first (by simpa using hi) (Region.noSelect_spec hs) (fun c a w h => only_panic h) (bne_iff_ne.1 h0) (waits hw) fuel listed a w (Region.free_spec (by simpa using hi) hf) hnl (by simpa using hr) hy hS (h _ rfl)
def batchJ (l : List Oper) (j0 : Nat) (is : List Nat) : Bool := is.all (fun i => i != j0 && waitsB l j0 i)
theorem batch {P : Program} {l : List Oper} {Q : Exit → Act → World → Prop} {S : World → Prop} {j0 : Nat} (hs : Region.noSelect l.toArray = true) : ∀ (is : List Nat) (os : List Oper) (fuel : Nat) (listed : Array Bool) (a : Act) (w : World), S w →
    is.map (fun i => l.toArray[i]?) = os.map some → batchB l.toArray is listed = true → batchJ l j0 is = true → listed.getD j0 true = false → wpQuiet P l.toArray (fun _ => True) (fun a' => wpL P l.toArray (only Q) S j0 fuel (Mix.mark is listed) a' w) os a → wpL P l.toArray (only Q) S j0 (fuel + is.length) listed a w
  | [], [], fuel, listed, a, w, _, _, _, _, _, h => h
  | [], o :: os, _, _, _, _, _, he, _, _, _, _ => by simp at he
  | i :: is, [], _, _, _, _, _, he, _, _, _, _ => by simp at he
  | i :: is, o :: os, fuel, listed, a, w, hS, he, hb, hj, hnl, h => by
    simp only [List.map_cons, List.cons.injEq] at he
    obtain ⟨hi, he⟩ := he
    simp only [batchB, hi, Option.map_some, Option.getD_some, Bool.and_eq_true] at hb
    obtain ⟨⟨⟨hk, hf⟩, hr⟩, hb⟩ := hb
    simp only [batchJ, List.all_cons, Bool.and_eq_true] at hj
    obtain ⟨⟨hj1, hj2⟩, hj3⟩ := hj
    have hfst := fun (v : Value) (hy : YieldsIf P l.toArray S o v a) (H : wpL P l.toArray (only Q) S j0 (fuel + is.length) (listed.setIfInBounds i true) (a.put o.dst v) w) => first (Q := only Q) hi (Region.noSelect_spec hs) (fun c a w h => only_panic h) (bne_iff_ne.1 hj1) (waits hj2) (fuel + is.length) listed a w (Region.free_spec hi hf) hnl (by simpa using hr) hy hS H
    have hnl' : (listed.setIfInBounds i true).getD j0 true = false := by rw [getD_set_ne true (bne_iff_ne.1 hj1)]; exact hnl
    simp only [wpQuiet] at h
    by_cases hw : Region.wanted o (yielded l.toArray a.tmps) = true
    · rw [if_pos hw] at h
      obtain ⟨v, hv, hn⟩ := h
      exact hfst v (yields_of hk hw hv).yieldsIf (batch hs is os fuel _ _ w hS he hb (by unfold batchJ; exact hj3) hnl' hn)
    · rw [if_neg hw] at h
      exact hfst undef (.inr ⟨by simpa using hw, rfl⟩) (batch hs is os fuel _ _ w hS he hb (by unfold batchJ; exact hj3) hnl' h)
theorem takes {P : Program} {l : List Oper} {Q : Exit → Act → World → Prop} {S : World → Prop} {j0 F : Nat} {listed : Array Bool} {a : Act} {w : World} (fs : List Bool) (fuel : Nat) (hs : Region.noSelect l.toArray = true) (hF : F = fuel + (idx fs 0).length) (hl : fs.length ≤ l.length) (hb : batchB l.toArray (idx fs 0) listed = true) (hj : batchJ l j0 (idx fs 0) = true) (hnl : listed.getD j0 true = false) (hS : S w)
    (h : ∀ K : Act → Prop, (∀ a', wpL P l.toArray (only Q) S j0 fuel (Mix.mark (idx fs 0) listed) a' w → K a') → wpQuiet P l.toArray (fun _ => True) K (pick fs l) a) : wpL P l.toArray (only Q) S j0 F listed a w := by
  rw [hF]
  exact batch hs (idx fs 0) (pick fs l) fuel listed a w hS (idx_pick _ fs l 0 (by simp) hl) hb hj hnl (h _ (fun _ h => h))
/-- whichever of those that may come up -/
theorem many {P : Program} {l : List Oper} {Q : Exit → Act → World → Prop} {S : World → Prop} {j0 F : Nat} {listed : Array Bool} {a : Act} {w : World} (is : List Nat) (fuel : Nat) (hr : Region.ready .any l.toArray listed = is) (hne : is ≠ []) (hF : F = fuel + 1)
    (h : ∀ i, i ∈ is → ∃ o, l[i]? = some o ∧ ∀ K : Act → World → Prop, (∀ a' w', ((listed.setIfInBounds i true).getD j0 true = false → S w') → wpL P l.toArray (only Q) S j0 fuel (listed.setIfInBounds i true) a' w' → K a' w') → wpList P l.toArray (only fun _ => K) [o] a w) : wpL P l.toArray (only Q) S j0 F listed a w := by
  subst hF
  refine ⟨fun h0 => absurd (hr ▸ h0) hne, fun m hm => ?_⟩
  rw [hr] at hm
  obtain ⟨o, hi, h1⟩ := h m hm
  have h0 := h1 _ (fun _ _ hs h => (⟨hs, h⟩ : _ ∧ _))
  have hi' : l.toArray[m]? = some o := by simpa using hi
  unfold wpOp
  simp only [hi']
  unfold wpList at h0
  split
  · rename_i hw
    rw [if_pos hw] at h0
    rcases h0 with h0 | ⟨_, h0⟩
    · exact .inl (wp_only (fun a w h => h.2) h0)
    · exact absurd h0 (no_out _)
  · rename_i hw
    rw [if_neg hw] at h0
    exact h0.2
theorem done {P : Program} {l : List Oper} {Q : Exit → Act → World → Prop} {S : World → Prop} {j0 : Nat} {listed : Array Bool} {a : Act} {w : World} {fuel : Nat} (hr : Region.ready .any l.toArray listed = []) (h : Q .normal a w) : wpL P l.toArray (only Q) S j0 fuel listed a w := by
  cases fuel with
  | zero => exact ⟨hr, rfl, h⟩
  | succ f => exact ⟨fun _ => ⟨rfl, h⟩, by rw [hr]; simp⟩
end Go.Proofs.Ytcoaghcmbhogjaa.MixL
