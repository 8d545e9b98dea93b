/-
  The document's own answer (weirref1): Pack.
-/
import Derived.Test.YtcgfdhmegagjdaaRefFields
import Derived.Deep.QuietTactic
import Derived.BigQuiet
import Derived.Deep.RegionLaw
namespace Go.Proofs.Ytcgfdhmegagjdaa
open Go.RowKit

/-- append onto a row of the call's own, as one step of a region that draws -/
theorem step_append_own {P : Program} {ops : Array Oper} {o : Oper} {a : Act} {w : World} {K : Act → World → Prop} {Q : Exit → Act → World → Prop} {E : Prop} (hg : o.guard = none) (s x : Operand) (t : TypeId)
    (ho : o.op = .call { callee := .builtin .append, args := #[s, x], argTypes := #[t, t] })
    (base : Nat) (e : TypeId) (i : TypeInfo) (z : Value) (size bytes : Nat) (ht : P.underlying t = some (.slice e)) (hi : P.info? e = some i) (hz : i.zero = some z)
    (hsize : i.size = size) (hby : i.bytes = bytes) (hzs : z.cells.size = size) (hsz : 0 < size)
    (v : Value) (n : Nat) (xs : List Value) (hs : a.eval s = v) (hown : w.ownsRow base e size v n xs)
    (ad : Addr) (m c : Nat) (news : List Value) (hx : a.eval x = .slice (some ad) m c) (hl : news.length = m * size) (hnews : ∀ j u, news[j]? = some u → w.cell? (ad.add j) = some u) (h1 : ∀ u ∈ news, u.oneCell' = true)
    (h63 : n + m ≤ maxLen) (hbytes : (n + m) * bytes ≤ 140737488355328) (hbase : base ≤ w.heap.size)
    (h : ∀ v' w', w'.ownsRow base e size v' (n + m) (xs ++ news) → w.grownBy w' v.ownBlock → K (a.put o.dst v') w') :
    if Region.wanted o (yielded ops a.tmps) = true then Oper.wp P o a w K Q else E := by
  have hw : Region.wanted o (yielded ops a.tmps) = true := by simp [Region.wanted, hg]
  rw [if_pos hw]
  exact wp_append_own w s x t ho base e i z size bytes ht hi hz hsize hby hzs hsz v n xs hs hown ad m c news hx hl hnews h1 h63 hbytes hbase (fun v' w' h2 h3 _ => h v' w' h2 h3)

theorem seg_cell {k : IntKind} {W : World} {b off : Nat} {zs : List Int} (h : Seg k W (some ⟨b, off, none⟩) zs) (i : Nat) (hi : i < zs.length) {y : Int} (hy : y = zs.getD i 0) : W.cell? ⟨b, off + i, none⟩ = some (.int k y) := by
  rcases h with hnil | ⟨b', off', e, hc⟩
  · rw [hnil] at hi; simp at hi
  · simp only [Option.some.injEq, Addr.mk.injEq, and_true] at e
    obtain ⟨rfl, rfl⟩ := e
    rw [hy]
    exact hc i hi

theorem row_step (s t u V y q : Nat) (hq : q = y / 2 ^ u) : (toI (M.rowN (s + t) (V * 2 ^ t + y / 2 ^ (u + 1)))).map (Value.int .i64) ++ [.int .i64 ((q : Int) % 2)] = (toI (M.rowN (s + (t + 1)) (V * 2 ^ (t + 1) + y / 2 ^ u))).map (Value.int .i64) := by
  have e : V * 2 ^ (t + 1) + y / 2 ^ u = (V * 2 ^ t + y / 2 ^ (u + 1)) * 2 + q % 2 := by
    rw [← halves y u, ← hq, Nat.pow_succ, ← Nat.mul_assoc, Nat.add_mul]
    omega
  rw [e, ← Nat.add_assoc, M.rowN_snoc _ _ _ (Nat.mod_lt _ (by decide))]
  unfold toI
  rw [List.map_append, List.map_append]
  simp

theorem bytesV_next (n m V : Nat) (h : m < n) : bytesV m (V / 256 ^ (n - m)) ++ [.int .u8 ((M.gath V (8 * n) (8 * m) 8 : Nat) : Int)] = bytesV (m + 1) (V / 256 ^ (n - (m + 1))) := by
  rw [bytesV, bytesV, ← M.bytesN_next n m V h, List.map_append]
  rfl

set_option maxRecDepth 100000 in
set_option maxHeartbeats 1600000 in
theorem refPack_any (ad ad2 : Option Addr) (cap cap2 n : Nat) (ws : List Nat) (vs : List Int) (w : World) (hw : Seg .i64 w ad (toI ws)) (hv : Seg .i64 w ad2 vs)
    (hvl : vs.length = ws.length) (h64 : ws.length ≤ 64) (hws : ∀ x ∈ ws, 1 ≤ x ∧ x ≤ 32) (htot : M.tot ws = 8 * n) :
    Calls Try.prog 51 #[.slice ad ws.length cap, .slice ad2 ws.length cap2] w fun e w' => ∃ v er, e = .returned (.tuple #[v, .int .i64 er]) ∧ Below w.heap.size w w' ∧
      ((fitI ws vs ws.length ∧ er = 0 ∧ w'.ownsRow w.heap.size 5 1 v n (bytesV n (vOf ws vs ws.length))) ∨ (¬ fitI ws vs ws.length ∧ er = 12 ∧ v = .slice none 0 0)) := by
  have hok : okW (toI ws) = true := okW_mk ws h64 hws (by omega)
  have hnl : n ≤ 256 := by have := M.tot_le ws 32 (fun x hx => (hws x hx).2); omega
  have hbits := bits_any ad cap (toI ws) w hw (by rw [toI_len]; omega)
  rw [toI_len, show rbN (toI ws) = ((8 * n : Nat) : Int) by simp only [rbN, hok, if_true, sumI_toI]; omega] at hbits
  have HBT : Hid _ := hbits
  have HT : Hid (M.tot ws = 8 * n) := htot
  have HV : Hid (vs.length = ws.length) := hvl
  clear hbits hok htot hvl
  obtain ⟨i0, hi, hz0, hz1, hz2⟩ := info_parts Try.infoInt
  obtain ⟨j0, gi, gz0, gz1, gz2⟩ := info_parts Try.infoByte
  go_enter Try.func51, Try.ntmps51
  go_wp2_with fail
  refine Calls.mono HBT.out ?_
  rintro e w' ⟨rfl, rfl⟩
  go_wp2
  go_loopw [7, 8] (fun ro ix wr => ∃ k s : Nat, k ≤ ws.length ∧ ix = .int .i64 k ∧ Hid (s = M.tot (ws.take k)) ∧ s ≤ 8 * n ∧ fitI ws vs k ∧
      wr.ownsRow w.heap.size 3 1 ro s ((toI (M.rowN s (vOf ws vs k))).map (Value.int .i64)) ∧ Below w.heap.size w wr) (fun _ ix _ => ws.length - (intOf ix).toNat)
  case atStart => exact ⟨0, 0, Nat.zero_le _, rfl, rfl, by omega, by intro j hj; omega, World.ownsRow_nil _ _ _ _, Below.refl _ _⟩
  case round =>
    obtain ⟨k, s, hk, rfl, HS, hs8, hfit, hown, hbel⟩ := hrel
    by_cases hlt : k < ws.length
    · have hw1 := hw.old hbel
      have hv1 := hv.old hbel
      rcases hw1 with hnil | ⟨wb, woff, rfl, hwc⟩
      · exact absurd hnil (toI_ne ws (by omega))
      rcases hv1 with hnil | ⟨vb, voff, rfl, hvc⟩
      · exact absurd HV.out (by rw [hnil]; simp only [List.length_nil]; omega)
      have hcw : wr.cell? ⟨wb, woff + k, none⟩ = some (.int .i64 ((ws[k] : Nat) : Int)) := by
        have := hwc k (by rw [toI_len]; exact hlt)
        rw [toI_getD] at this
        simpa [List.getD, hlt] using this
      have hcv := hvc k (by rw [HV.out]; exact hlt)
      clear hwc hvc
      obtain ⟨x, hx⟩ : ∃ x, x = ws[k] := ⟨_, rfl⟩
      rw [← hx] at hcw
      have hx1 : 1 ≤ x ∧ x ≤ 32 := by rw [hx]; exact hws _ (List.getElem_mem _)
      obtain ⟨hxl, hxu⟩ := hx1
      have HX : Hid (x = ws[k]) := hx
      clear hx
      obtain ⟨y, hy⟩ : ∃ y, y = vs.getD k 0 := ⟨_, rfl⟩
      rw [← hy] at hcv
      have HY : Hid (y = vs.getD k 0) := hy
      clear hy
      have hki : (k : Int) < (ws.length : Int) := by omega
      by_cases hy0 : y < 0
      · have hnf : Hid (¬ fitI ws vs ws.length) := fun hf => by have := (hf k hlt).1; rw [← HY.out] at this; omega
        go_wp2
        go_quiet (fail)
        go_wp2
        go_ret2
        exact ⟨_, _, rfl, below_drewN hbel _, .inr ⟨hnf.out, rfl, rfl⟩⟩
      · have hyd : decide (y < 0) = false := by simpa using hy0
        obtain ⟨yn, hyn⟩ : ∃ yn : Nat, y = (yn : Int) := ⟨y.toNat, by omega⟩
        have hpx : (2 : Nat) ^ x ≤ 2 ^ 32 := Nat.pow_le_pow_right (by decide) hxu
        obtain ⟨pw, hpw⟩ : ∃ pw, pw = 2 ^ x := ⟨_, rfl⟩
        have hpc := fun (W : World) => power_any x W (by omega)
        rw [← hpw] at hpx hpc
        have HPC : Hid (∀ W : World, Calls Try.prog 60 #[.int .i64 (x : Int)] W fun e w' => e = .returned (.int .i64 (pw : Int)) ∧ W = w') := hpc
        have HPW : Hid (pw = 2 ^ x) := hpw
        clear hpw hpc
        by_cases hyx : yn < pw
        · subst hyn
          have hcvA : Hid (∀ W, Below w.heap.size w W → W.cell? ⟨vb, voff + k, none⟩ = some (.int .i64 (yn : Int))) := fun W hB => seg_cell (hv.old hB) k (by rw [HV.out]; exact hlt) HY.out
          have hyI : (yn : Int) < 2 ^ x := by
            have ep : ((2 : Int) ^ x) = ((2 ^ x : Nat) : Int) := by simp
            rw [ep, ← HPW.out]
            omega
          have hf1 : Hid (fitI ws vs (k + 1)) := fitI_succ ws vs k x (yn : Int) hfit hlt (by omega) hyI HX.out HY.out
          clear hyI
          have hsx : s + x ≤ 8 * n := by
            have e3 := M.tot_take_succ ws k hlt
            have e4 := M.tot_take_le ws (k + 1)
            have e5 := HS.out
            have e6 := HT.out
            have e7 := HX.out
            omega
          have hvn := vOf_succ ws vs k x (yn : Int) hlt HX.out HY.out HV.out
          rw [Int.toNat_natCast] at hvn
          have HVN : Hid _ := hvn
          clear hvn
          obtain ⟨V, hV⟩ : ∃ V, V = vOf ws vs k := ⟨_, rfl⟩
          rw [← hV] at hown
          have HVV : Hid (V = vOf ws vs k) := hV
          clear hV
          have hz : yn / 2 ^ x = 0 := Nat.div_eq_of_lt (by rw [← HPW.out]; exact hyx)
          have HZ : Hid _ := hz
          clear hz
          have hdd : decide (pw ≤ yn) = false := by simp; omega
          go_wp2
          go_quiet ((go_at_call 60; exact Calls.quiet_of_same (Calls.mono (HPC.out _) (fun e w' h => ⟨h.1, h.2.symm⟩))))
          have hcw2 : (wr.drewN nq).cell? ⟨wb, woff + k, none⟩ = some (.int .i64 (x : Int)) := hcw
          have hown2 : (wr.drewN nq).ownsRow w.heap.size 3 1 _ s ((toI (M.rowN s V)).map (Value.int .i64)) := hown
          have hbel2 := below_drewN hbel nq
          clear hcw hcv hown hbel
          generalize wr.drewN nq = wo at *
          go_wp2
          go_loopw [7, 9] (fun ro kx wr => ∃ t u : Nat, t + u = x ∧ kx = .int .i64 ((u : Int) - 1) ∧ wr.ownsRow w.heap.size 3 1 ro (s + t) ((toI (M.rowN (s + t) (V * 2 ^ t + yn / 2 ^ u))).map (Value.int .i64)) ∧ Below w.heap.size w wr)
            (fun _ kx _ => (intOf kx + 1).toNat)
          case atStart => exact ⟨0, x, by omega, by go_num, by rw [HZ.out]; simpa using hown2, hbel2⟩
          case round =>
            obtain ⟨t, u, htu, rfl, hown3, hbel3⟩ := hrel
            have HTU : Hid (t + u = x) := htu
            cases u with
            | zero =>
              clear htu
              go_wp2
              go_roundw
              case rel =>
                have e := HTU.out
                rw [Nat.add_zero] at e
                subst e
                refine ⟨k + 1, s + t, by omega, by go_num, ?_, hsx, hf1.out, ?_, hbel3⟩
                · show s + t = _
                  rw [M.tot_take_succ ws k hlt, ← HX.out, ← HS.out]
                · rw [HVN.out, ← HVV.out]
                  rw [Nat.pow_zero, Nat.div_one] at hown3
                  exact hown3
              case measure => simp [intOf]; omega
            | succ u =>
              have hcv3 := hcvA.out wr hbel3
              have e1 : ((u + 1 : Nat) : Int) - 1 = (u : Int) := by omega
              rw [e1]
              clear e1
              have hpu : (2 : Nat) ^ u ≤ 2 ^ 32 := Nat.pow_le_pow_right (by decide) (by omega)
              obtain ⟨pu, hpu2⟩ : ∃ pu, pu = 2 ^ u := ⟨_, rfl⟩
              have hpc := fun (W : World) => power_any u W (by omega)
              rw [← hpu2] at hpu hpc
              have HPU : Hid (∀ W : World, Calls Try.prog 60 #[.int .i64 (u : Int)] W fun e w' => e = .returned (.int .i64 (pu : Int)) ∧ W = w') := hpc
              have hpos : 1 ≤ pu := by rw [hpu2]; exact Nat.two_pow_pos _
              have HPU2 : Hid (pu = 2 ^ u) := hpu2
              have hpu3 : pu ≤ 4294967296 := hpu
              have hne : ¬ pu = 0 := by omega
              obtain ⟨q, hq⟩ : ∃ q, q = yn / pu := ⟨_, rfl⟩
              have hql : q ≤ yn := by rw [hq]; exact Nat.div_le_self _ _
              have hwr : IntKind.i64.wrap ((yn : Int) / (pu : Int)) = (q : Int) := by
                rw [IntKind.wrap_i64, ← Int.natCast_ediv, ← hq]
                omega
              have HQ : Hid (q = yn / pu) := hq
              clear hq
              have hu40 : u ≤ 40 := by omega
              have htx : t + 1 ≤ x := by omega
              clear hpu2 hpc hpu htu
              go_wp2
              go_region_law (first
                | (go_simp; go_at_call 60; refine Calls.mono (HPU.out _) ?_; rintro e w' ⟨rfl, rfl⟩)
                | (refine step_append_own rfl (.tmp 55) (.tmp 64) 23 rfl w.heap.size 3 i0 (.int .i64 0) 1 8 Try.underlying23 hi hz0 hz1 hz2 rfl (by decide) _ _ _ rfl (by exact owns_drew (hown3.alloc _)) ⟨wr.heap.size, 0, none⟩ 1 1 [.int .i64 ((q : Int) % 2)] rfl rfl (by exact cell_one_new _ _ _) (by intro u hu; simp at hu; subst hu; rfl) (by unfold maxLen; omega) (by omega) (by have := hbel3.size; simp; omega) ?_; intro v1 w1 ho1 hg1))
              all_goals
                have hbw : Below w.heap.size w w1 := (Below.drew (hbel3.alloc hbel3.size _)).grown hg1 (by have := hbel3.size; simp; omega) (fun j hj => (hown3.lt j hj).1)
                have hrow := row_step s t u V yn q (by rw [HQ.out, HPU2.out])
                rw [hrow] at ho1
                clear hg1 hown3 hbel3 hcv3 hrow hwr
                go_wp2
                go_roundw
                case rel =>
                  have htu1 : t + 1 + u = x := by have := HTU.out; omega
                  have hnum : Value.int .i64 ((u : Int) - 1) = Value.int .i64 ((u : Int) - 1) := rfl
                  first | exact ⟨t + 1, u, htu1, hnum, ho1, hbw⟩ | ((repeat apply Exists.intro); exact ⟨⟨t + 1, u, htu1, hnum, ho1, hbw⟩, rfl⟩)
                case measure => simp [intOf]
        · have hnf : Hid (¬ fitI ws vs ws.length) := fun hf => by
            have := (hf k hlt).2
            rw [← HY.out, hyn] at this
            have e2 : ws.getD k 0 = x := by rw [HX.out]; simp [List.getD, hlt]
            rw [e2] at this
            have ep : ((2 : Int) ^ x) = ((2 ^ x : Nat) : Int) := by simp
            rw [ep, ← HPW.out] at this
            omega
          subst hyn
          go_wp2
          go_quiet ((go_at_call 60; exact Calls.quiet_of_same (Calls.mono (HPC.out _) (fun e w' h => ⟨h.1, h.2.symm⟩))))
          go_wp2
          go_ret2
          exact ⟨_, _, rfl, below_drewN hbel _, .inr ⟨hnf.out, rfl, rfl⟩⟩
    · obtain rfl : k = ws.length := by omega
      have e1 := HS.out
      rw [List.take_length, HT.out] at e1
      subst e1
      obtain ⟨ra, rc, rfl, hrs, _, _, _⟩ := owns_seg hown
      have hft : Hid (fitI ws vs ws.length) := hfit
      obtain ⟨V, hV⟩ : ∃ V, V = vOf ws vs ws.length := ⟨_, rfl⟩
      rw [← hV] at hrs
      have HVV : Hid (V = vOf ws vs ws.length) := hV
      obtain ⟨wq, rfl⟩ : ∃ wq : World, wq = wr := ⟨_, rfl⟩
      clear hown hV hfit hw hv
      go_wp2
      go_loopw [10, 11] (fun l ix wr => ∃ m : Nat, m ≤ n ∧ ix = .int .i64 ((8 * m : Nat) : Int) ∧ wr.ownsRow wq.heap.size 5 1 l m (bytesV m (V / 256 ^ (n - m))) ∧ Below wq.heap.size wq wr) (fun _ ix _ => 8 * n - (intOf ix).toNat)
      case atStart => exact ⟨0, Nat.zero_le _, by go_num, World.ownsRow_nil _ _ _ _, Below.refl _ _⟩
      case round =>
        obtain ⟨m, hm, rfl, hown, hbel2⟩ := hrel
        by_cases hmn : m < n
        · have hr2 := hrs.old hbel2
          rcases hr2 with hnil | ⟨rb, roff, rfl, hrc⟩
          · exact absurd hnil (toI_ne _ (by rw [M.length_rowN]; omega))
          have HRC : Hid _ := hrc
          clear hrc
          go_wp2
          go_loop [12, 13] (fun c kx => ∃ j : Nat, j ≤ 8 ∧ kx = .int .i64 ((8 * m + j : Nat) : Int) ∧ c = .int .i64 ((M.gath V (8 * n) (8 * m) j : Nat) : Int)) (fun _ kx => 8 * m + 8 - (intOf kx).toNat)
          case atStart => exact ⟨0, by omega, by go_num, by simp [M.gath_zero]⟩
          case round =>
            obtain ⟨j, hj, rfl, rfl⟩ := hrel
            have hgl : M.gath V (8 * n) (8 * m) j < 2 ^ 8 := Nat.lt_of_lt_of_le (M.gath_lt _ _ _ _) (Nat.pow_le_pow_right (by decide) hj)
            by_cases hj8 : j < 8
            · have hcell := HRC.out (8 * m + j) (by rw [toI_len, M.length_rowN]; omega)
              rw [toI_getD] at hcell
              have hrl : 8 * m + j < (M.rowN (8 * n) V).length := by rw [M.length_rowN]; omega
              have hget : (M.rowN (8 * n) V).getD (8 * m + j) 0 = V / 2 ^ (8 * n - 1 - (8 * m + j)) % 2 := by
                rw [← M.rowN_get (8 * n) V (8 * m + j) (by omega)]
                simp [List.getD, hrl]
              rw [hget] at hcell
              have hg := M.gathV_succ V (8 * n) (8 * m) j (by omega)
              obtain ⟨y, hy⟩ : ∃ y, y = V / 2 ^ (8 * n - 1 - (8 * m + j)) % 2 := ⟨_, rfl⟩
              have hy2 : y < 2 := by rw [hy]; exact Nat.mod_lt _ (by decide)
              rw [← hy] at hcell hg
              obtain ⟨g, hgg⟩ : ∃ g, g = M.gath V (8 * n) (8 * m) j := ⟨_, rfl⟩
              rw [← hgg] at hg hgl ⊢
              have HG : Hid _ := hg
              have hgl2 : g < 256 := hgl
              clear hg hgg hy hget hgl hrl
              go_wp2
              go_round
              case rel => exact ⟨j + 1, by omega, by go_num, by rw [← HG.out]; go_num⟩
              case measure => simp [intOf]; omega
            · obtain rfl : j = 8 := by omega
              have hst := bytesV_next n m V hmn
              obtain ⟨g, hgg⟩ : ∃ g, g = M.gath V (8 * n) (8 * m) 8 := ⟨_, rfl⟩
              rw [← hgg] at hst hgl ⊢
              have HST : Hid _ := hst
              have hgl2 : g < 256 := hgl
              clear hst hgg hgl
              go_wp2_with (first | (at_builtin; refine wpList_append_own _ rfl (.tmp 85) (.tmp 88) 22 rfl wq.heap.size 5 j0 (.int .u8 0) 1 1 Try.underlying22 gi gz0 gz1 gz2 rfl (by decide) _ _ _ rfl (hown.alloc _) ⟨wr.heap.size, 0, none⟩ 1 1 [.int .u8 (g : Int)] rfl rfl ?c1 ?c2 ?c3 ?c4 ?c5 ?_))
              case c2 => first | rfl | (intro u hu; simp at hu; subst hu; rfl)
              case c3 => unfold maxLen; omega
              case c4 => omega
              case c5 => have := hbel2.size; simp; omega
              intro v' w1 hown1 hgrow1 _
              have hbel1 : Below wq.heap.size wq w1 := (hbel2.alloc hbel2.size _).grown hgrow1 (by have := hbel2.size; simp; omega) (fun j hj => (hown.lt j hj).1)
              rw [HST.out] at hown1
              clear hgrow1 hown hbel2
              go_wp2
              go_roundw
              case rel => exact ⟨m + 1, by omega, by go_num, hown1, hbel1⟩
              case measure => simp [intOf]; omega
        · obtain rfl : m = n := by omega
          rw [Nat.sub_self, Nat.pow_zero, Nat.div_one, HVV.out] at hown
          go_wp2
          go_ret2
          exact ⟨_, _, rfl, hbel.trans (hbel2.mono hbel.size), .inl ⟨hft.out, rfl, owns_mono hown hbel.size⟩⟩
end Go.Proofs.Ytcgfdhmegagjdaa
