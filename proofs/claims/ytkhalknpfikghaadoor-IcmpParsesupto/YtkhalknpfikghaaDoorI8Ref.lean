/-
  The document's own answer of layer 8: parts, Parse, Serialise.
-/
import Derived.Test.YtkhalknpfikghaaDoorI8Nd1
import Derived.Test.YtkhalknpfikghaaDoorI8Ps4
namespace Go.Proofs.YtkhalknpfikghaaDoor
open Go.RowKit
open I8 (M8)

theorem rfolded_any (n : Nat) (w : World) (h : n < 9223372036854775807) : Calls Tryd.prog 60 #[.int .i64 n] w fun e w' => e = .returned (.int .i64 ((S.fold n : Nat) : Int)) ∧ w = w' := by
  by_cases h0 : n = 0
  · subst h0
    go_enter Tryd.func60, Tryd.ntmps60
    go_wp2
    go_ret
    exact ⟨ret1 (by simp [S.fold]), rfl⟩
  · have h1 : ((n : Int) == 0) = false := by simp; omega
    go_enter Tryd.func60, Tryd.ntmps60
    go_wp2
    go_ret
    refine ⟨ret1 ?_, rfl⟩
    rw [S.fold, if_neg h0]
    omega

theorem wv_snoc (l : List Nat) (x : Nat) : S.wv false (l ++ [x]) = S.wv false l + (if l.length % 2 = 0 then 256 * x else x) := by
  rw [S.wv_append]
  by_cases h : l.length % 2 = 0
  · have : S.par false l.length = false := by simp [S.par, h]
    rw [this, if_pos h]
    simp [S.wv]
  · have : S.par false l.length = true := by simp [S.par, show l.length % 2 = 1 by omega]
    rw [this, if_neg h]
    simp [S.wv]

set_option maxHeartbeats 800000 in
theorem rsum_any (a : Option Addr) (n cap : Nat) (ps : List Part) (w : World) (hn : ps.length = n) (hps : Parts w a ps) (htot : (allB ps).length ≤ 1099511627776) (hn2 : n ≤ 9223372036854775807) :
    Calls Tryd.prog 50 #[.slice a n cap] w fun e w' => e = .returned (.int .i64 ((S.fold (S.wv false (allB ps)) : Nat) : Int)) ∧ w = w' := by
  subst hn
  obtain ⟨hcells, hok⟩ := hps
  have HT : Hid ((allB ps).length ≤ 1099511627776) := htot
  have h256 : ∀ x ∈ allB ps, x < 256 := allB_lt ps (fun p hp => (hok p hp).2.1)
  have H256 : Hid (∀ x ∈ allB ps, x < 256) := h256
  clear htot h256
  go_enter Tryd.func50, Tryd.ntmps50
  go_wp2
  go_loop [3, 4, 5] (fun at' t ix => ∃ k A T : Nat, k ≤ ps.length ∧ ix = .int .i64 k ∧ at' = .int .i64 A ∧ t = .int .i64 T ∧ A ≤ 1099511627776 ∧ T ≤ 71776119061217280 ∧ Hid (A = (allB (ps.take k)).length) ∧ Hid (T = S.wv false (allB (ps.take k)))) (fun _ _ ix => ps.length - (intOf ix).toNat)
  case atStart => exact ⟨0, 0, 0, Nat.zero_le _, rfl, rfl, rfl, by omega, by omega, by show _ = _; simp [allB], by show _ = _; simp [allB, S.wv]⟩
  case round =>
    obtain ⟨k, A, T, hk, rfl, rfl, rfl, hA, hT, HA, HTV⟩ := hrel
    by_cases hlt : k < ps.length
    · rcases hcells with hnil | ⟨b, off, rfl, hc⟩
      · rw [hnil] at hlt; simp at hlt
      have hcell := hc k hlt
      have hp := hok _ (List.getElem_mem hlt)
      have e1 := allB_take_succ ps k hlt
      have e2 := allB_take_le ps (k + 1)
      have hlt' : ∀ x ∈ allB (ps.take (k + 1)), x < 256 := fun x hx => H256.out x (by
          simp only [allB, List.mem_flatMap] at hx ⊢
          obtain ⟨p, hp, hx⟩ := hx
          exact ⟨p, List.mem_of_mem_take hp, hx⟩)
      obtain ⟨p, hpe⟩ : ∃ p, p = ps[k] := ⟨_, rfl⟩
      rw [← hpe] at hcell hp e1
      obtain ⟨pa, pc, l⟩ := p
      obtain ⟨hseg, hl256, hlc, hpc⟩ := hp
      simp only [Part.val] at hcell hseg hl256 hlc hpc e1
      obtain ⟨pre, hpre⟩ : ∃ pre, pre = allB (ps.take k) := ⟨_, rfl⟩
      rw [← hpre] at HA HTV e1
      rw [e1] at hlt' e2
      have HE1 : Hid (allB (ps.take (k + 1)) = pre ++ l) := e1
      have HLT : Hid (∀ x ∈ pre ++ l, x < 256) := hlt'
      have hpl : A + l.length ≤ 1099511627776 := by have := HT.out; have := HA.out; simp at e2; omega
      clear e1 e2 hpe hc hlt' hpre
      obtain ⟨N, hN⟩ : ∃ N, N = l.length := ⟨_, rfl⟩
      have HN : Hid (l.length = N) := hN.symm
      rw [← hN] at hcell hlc hpl
      clear hN
      go_wp2
      go_loop [3, 4, 6] (fun at' t ix => ∃ j T' : Nat, j ≤ N ∧ ix = .int .i64 j ∧ at' = .int .i64 ((A + j : Nat) : Int) ∧ t = .int .i64 T' ∧ T' ≤ 71776119061217280 ∧ Hid (T' = S.wv false (pre ++ l.take j))) (fun _ _ ix => N - (intOf ix).toNat)
      case atStart => exact ⟨0, T, Nat.zero_le _, rfl, rfl, rfl, hT, by show _ = _; rw [List.take_zero, List.append_nil]; exact HTV.out⟩
      case round =>
        obtain ⟨j, T', hj, rfl, rfl, rfl, hT', HT'⟩ := hrel
        by_cases hjl : j < N
        · obtain ⟨pb, poff, rfl, hpcell⟩ := seg_at hseg j (by rw [HN.out]; exact hjl)
          have c0 := hpcell j (by rw [HN.out]; exact hjl)
          have htk : l.take (j + 1) = l.take j ++ [l.getD j 0] := by
            rw [List.take_succ_eq_append_getElem (by rw [HN.out]; exact hjl)]
            simp [List.getD, show j < l.length by rw [HN.out]; exact hjl]
          have hstep := wv_snoc (pre ++ l.take j) (l.getD j 0)
          rw [List.append_assoc, ← htk, ← HT'.out] at hstep
          have hlen : (pre ++ l.take j).length = A + j := by rw [List.length_append, List.length_take, HN.out, ← HA.out]; omega
          rw [hlen] at hstep
          have hb := S.wv_le false (pre ++ l.take (j + 1)) (fun x hx => HLT.out x (by
            rcases List.mem_append.1 hx with h | h
            · exact List.mem_append_left _ h
            · exact List.mem_append_right _ (List.mem_of_mem_take h)))
          have hlen2 : (pre ++ l.take (j + 1)).length = A + j + 1 := by rw [List.length_append, List.length_take, HN.out, ← HA.out]; omega
          rw [hlen2] at hb
          have hx256 : l.getD j 0 < 256 := by
            simp only [List.getD, List.getElem?_eq_getElem (show j < l.length by rw [HN.out]; exact hjl), Option.getD_some]; exact hl256 _ (List.getElem_mem _)
          obtain ⟨x, hx⟩ : ∃ x, x = l.getD j 0 := ⟨_, rfl⟩
          rw [← hx] at c0 hstep hx256
          have HB : Hid _ := hb
          clear hx htk hlen hlen2 hpcell hb
          by_cases hpar : (A + j) % 2 = 0
          · rw [if_pos hpar] at hstep
            have HST : Hid (S.wv false (pre ++ l.take (j + 1)) = T' + 256 * x) := hstep
            have hT2 : T' + 256 * x ≤ 71776119061217280 := by have := HB.out; have := HST.out; omega
            have hp1 : (((A + j : Nat) : Int) % 2 == 0) = true := by simp; omega
            have hp2 : ((((A : Int) + (j : Int))) % 2 == 0) = true := by simp; omega
            clear hstep
            go_wp2
            go_round
            case rel => exact ⟨j + 1, T' + 256 * x, by omega, by go_num, by go_num, by go_num, hT2, HST.out.symm⟩
            case measure => simp [intOf]; omega
          · rw [if_neg hpar] at hstep
            have HST : Hid (S.wv false (pre ++ l.take (j + 1)) = T' + x) := hstep
            have hT2 : T' + x ≤ 71776119061217280 := by have := HB.out; have := HST.out; omega
            have hp1 : (((A + j : Nat) : Int) % 2 == 0) = false := by simp; omega
            have hp2 : ((((A : Int) + (j : Int))) % 2 == 0) = false := by simp; omega
            clear hstep
            go_wp2
            go_round
            case rel => exact ⟨j + 1, T' + x, by omega, by go_num, by go_num, by go_num, hT2, HST.out.symm⟩
            case measure => simp [intOf]; omega
        · obtain rfl : j = N := by omega
          have HT2 : Hid (T' = S.wv false (allB (ps.take (k + 1)))) := by have h := HT'.out; rw [List.take_of_length_le (by rw [HN.out]; exact Nat.le_refl _), ← HE1.out] at h; exact h
          go_wp2
          go_round
          case rel => exact ⟨k + 1, A + j, T', by omega, by go_num, rfl, rfl, hpl, hT', by show _ = _; rw [HE1.out, List.length_append, ← HA.out, HN.out], HT2⟩
          case measure => simp [intOf]; omega
    · obtain rfl : k = ps.length := by omega
      have HTV2 : Hid (T = S.wv false (allB ps)) := by have := HTV.out; rw [List.take_length] at this; exact this
      go_wp2_with fail
      refine (rfolded_any T _ (by omega)).mono ?_
      rintro e w' ⟨rfl, rfl⟩
      go_wp2
      go_ret
      exact ⟨ret1 (by rw [HTV2.out]), rfl⟩

theorem rcheck_any (a : Option Addr) (n cap : Nat) (ps : List Part) (w : World) (hn : ps.length = n) (hps : Parts w a ps) (htot : (allB ps).length ≤ 1099511627776) (hn2 : n ≤ 9223372036854775807) :
    Calls Tryd.prog 38 #[.slice a n cap] w fun e w' => e = .returned (.int .i64 ((65535 - S.fold (S.wv false (allB ps)) : Nat) : Int)) ∧ w = w' := by
  go_enter Tryd.func38, Tryd.ntmps38
  go_wp2_with fail
  refine (rsum_any a n cap ps w hn hps htot hn2).mono ?_
  rintro e w1 ⟨rfl, rfl⟩
  have h1 := S.fold_le (S.wv false (allB ps))
  obtain ⟨f, hf⟩ : ∃ f, f = S.fold (S.wv false (allB ps)) := ⟨_, rfl⟩
  rw [← hf] at h1 ⊢
  have HF : Hid (f = S.fold (S.wv false (allB ps))) := hf
  clear hf
  go_wp2
  go_ret
  exact ⟨ret1 (by rw [← HF.out]; omega), rfl⟩
theorem rgood_any (a : Option Addr) (n cap : Nat) (ps : List Part) (w : World) (hn : ps.length = n) (hps : Parts w a ps) (htot : (allB ps).length ≤ 1099511627776) (hn2 : n ≤ 9223372036854775807) :
    Calls Tryd.prog 35 #[.slice a n cap] w fun e w' => e = .returned (.bool (decide (S.fold (S.wv false (allB ps)) = 65535))) ∧ w = w' := by
  go_enter Tryd.func35, Tryd.ntmps35
  go_wp2_with fail
  refine (rsum_any a n cap ps w hn hps htot hn2).mono ?_
  rintro e w1 ⟨rfl, rfl⟩
  have h1 := S.fold_le (S.wv false (allB ps))
  obtain ⟨f, hf⟩ : ∃ f, f = S.fold (S.wv false (allB ps)) := ⟨_, rfl⟩
  rw [← hf] at h1 ⊢
  have HF : Hid (f = S.fold (S.wv false (allB ps))) := hf
  clear hf
  go_wp2
  go_ret
  refine ⟨congrArg (fun b => Ending.returned (.bool b)) ?_, rfl⟩
  rw [← HF.out]
  by_cases h : f = 65535
  · subst h; rfl
  · have h2 : ¬ (f : Int) = 65535 := by omega
    rw [decide_eq_false h]
    simpa using h2


set_option maxHeartbeats 1600000 in
set_option maxRecDepth 100000 in
theorem rparts_any (v V U : Int) (x y : Nat → Nat) (a : Option Addr) (n cap : Nat) (bs : List Nat) (w : World) (hn : bs.length = n) (hb : Part.ok w ⟨a, cap, bs⟩) (hv : I8.isV v = true) (h0 : psX v V U = 0) (hm : n ≤ 65535) (hx : ∀ i, i < 16 → x i < 256) (hy : ∀ i, i < 16 → y i < 256) :
    Calls Tryd.prog 36 #[.int .i64 v, .agg (ipCells V x), .agg (ipCells U y), .slice a n cap] w fun e w' => ∃ X k ps, e = .returned (.slice (some ⟨X, 0, none⟩) k k) ∧ ps.length = k ∧ k ≤ 2 ∧ Parts w' (some ⟨X, 0, none⟩) ps ∧ allB ps = psB v V U x y n ++ bs ∧ Below w.heap.size w w' := by
  have hx1 := boxed_new w V x 24
  have hy1 := boxed_new (w.alloc (.cells (ipCells V x) 24)) U y 24
  have hb1 : Below w.heap.size w ((w.alloc (.cells (ipCells V x) 24)).alloc (.cells (ipCells U y) 24)) := ((Below.refl _ _).alloc (Nat.le_refl _) _).alloc (by simp) _
  have hx2 := hx1.old ((Below.refl _ _).alloc (Nat.le_refl _) (.cells (ipCells U y) 24))
  clear hx1
  rw [World.size_alloc] at hy1
  have HPS : Hid (∀ W, Calls Tryd.prog 51 #[.agg (ipCells V x), .agg (ipCells U y), .int .i64 58, .int .i64 n] W fun e w' => ∃ v, e = .returned (.tuple #[v, .int .i64 (psE V U x y 58 n)]) ∧ OwnB w' W.heap.size v (psL V U x y 58 n).length (psL V U x y 58 n) ∧ Below W.heap.size W w') := fun W => rpseudo_any V U x y 58 n W
  obtain ⟨A, hA⟩ : ∃ A, A = ipCells V x := ⟨_, rfl⟩
  obtain ⟨C, hC⟩ : ∃ C, C = ipCells U y := ⟨_, rfl⟩
  rw [← hA] at hx2 hy1 hb1 ⊢
  rw [← hC] at hx2 hy1 hb1 ⊢
  obtain ⟨W, hW⟩ : ∃ W, W = (w.alloc (.cells A 24)).alloc (.cells C 24) := ⟨_, rfl⟩
  rw [← hW] at hx2 hy1 hb1
  have HW : Hid ((w.alloc (.cells A 24)).alloc (.cells C 24) = W) := hW.symm
  obtain ⟨B, hB⟩ : ∃ B, B = w.heap.size := ⟨_, rfl⟩
  have HB : Hid (w.heap.size = B) := hB.symm
  rw [← hB] at hx2 hy1
  have HN : Hid (bs.length = n) := hn
  have HP : Hid (Part.ok w ⟨a, cap, bs⟩) := hb
  have HX : Hid (Boxed W B V x) := hx2
  have HY : Hid (Boxed W (B + 1) U y) := hy1
  have HPX : Hid (psX v V U = 0) := h0
  have HXX : Hid (∀ i, i < 16 → x i < 256) := hx
  have HYY : Hid (∀ i, i < 16 → y i < 256) := hy
  clear hA hC hW hB hx2 hy1 hn hb h0 hx hy
  rcases ver_cases hv with h4 | h6
  · subst h4
    clear hv
    go_enter Tryd.func36, Tryd.ntmps36
    go_upto_region 1 with fail
    rw [HB.out, HW.out]
    have P1 := HP.out.old hb1
    have pn := parts_new W [⟨a, cap, bs⟩] 25 (by intro p hp; simp at hp; subst hp; exact P1)
    have ev : ([⟨a, cap, bs⟩] : List Part).map Part.val = [.slice a n cap] := by show [Value.slice a bs.length cap] = _; rw [HN.out]
    rw [ev] at pn
    have HPN : Hid (Parts (W.alloc (.cells #[.slice a n cap] 25)) (some ⟨W.heap.size, 0, none⟩) [⟨a, cap, bs⟩]) := pn
    have HF : Hid (Below w.heap.size w (W.alloc (.cells #[.slice a n cap] 25))) := hb1.alloc hb1.size _
    clear pn P1 ev
    go_wp2
    go_ret
    exact ⟨_, 1, [⟨a, cap, bs⟩], rfl, rfl, by omega, HPN.out, by simp [allB, psB], HF.out⟩
  · subst h6
    clear hv
    have hs : six6 V U = true := by
      cases hh : six6 V U with
      | true => rfl
      | false => exact absurd HPX.out (by unfold psX; rw [if_pos ⟨rfl, hh⟩]; decide)
    have HL : Hid (psB 6 V U x y n = psL V U x y 58 n) := by show _ = _; unfold psB; rw [if_pos rfl]
    have HZ : Hid _ := (ps_six (x := x) (y := y) hs hm).1
    clear hs
    go_enter Tryd.func36, Tryd.ntmps36
    go_upto_region 1 with fail
    rw [HB.out, HW.out]
    go_wp2_with (first | (refine wpList_load_ip (.tmp 5) rfl B V x rfl HX.out rfl ?_) | (refine wpList_load_ip (.tmp 6) rfl (B + 1) U y rfl HY.out rfl ?_))
    refine Calls.mono (HPS.out W) ?_
    rintro e w1 ⟨p, rfl, ho, hb2⟩
    rw [HZ.out]
    have bel1 := bthen hb1 hb2
    have HO : Hid (OwnB w1 W.heap.size p (psL V U x y 58 n).length (psL V U x y 58 n)) := ho
    obtain ⟨pa, pcp, rfl⟩ := owns_shape ho
    have P0 : Part.ok w1 ⟨pa, pcp, psL V U x y 58 n⟩ := ho.part (by rw [← HL.out]; exact psB_256 6 V U x y n HPX.out hm HXX.out HYY.out)
    have P1 := HP.out.old bel1
    have pn := parts_new w1 [⟨pa, pcp, psL V U x y 58 n⟩, ⟨a, cap, bs⟩] 25 (by intro p hp; simp at hp; rcases hp with rfl | rfl; exact P0; exact P1)
    have ev : ([⟨pa, pcp, psL V U x y 58 n⟩, ⟨a, cap, bs⟩] : List Part).map Part.val = [.slice pa (psL V U x y 58 n).length pcp, .slice a n cap] := by show [Value.slice pa _ pcp, Value.slice a bs.length cap] = _; rw [HN.out]
    rw [ev] at pn
    have HAL : Hid (allB [⟨pa, pcp, psL V U x y 58 n⟩, ⟨a, cap, bs⟩] = psB 6 V U x y n ++ bs) := by show _ = _; rw [HL.out]; simp [allB]
    obtain ⟨pl, hpl⟩ : ∃ pl, pl = (psL V U x y 58 n).length := ⟨_, rfl⟩
    rw [← hpl] at pn ⊢
    have HPN : Hid (Parts (w1.alloc (.cells #[.slice pa pl pcp, .slice a n cap] 25)) (some ⟨w1.heap.size, 0, none⟩) [⟨pa, pcp, psL V U x y 58 n⟩, ⟨a, cap, bs⟩]) := pn
    have HF : Hid (Below w.heap.size w (w1.alloc (.cells #[.slice pa pl pcp, .slice a n cap] 25))) := bel1.alloc bel1.size _
    clear pn P0 P1 ev ho hb2 HO hpl
    go_wp2
    go_ret
    exact ⟨_, 2, [⟨pa, pcp, psL V U x y 58 n⟩, ⟨a, cap, bs⟩], rfl, rfl, by omega, HPN.out, HAL.out, HF.out⟩
theorem yields_u8 {ops : Array Oper} {o : Oper} {a : Act} {S : World → Prop} (x : Operand) (ho : o.op = .load 5 x) (p : Addr) (u : Value) (hx : a.eval x = .pointer (some p)) (hw : Region.wanted o (yielded ops a.tmps) = true) (hS : ∀ w, S w → w.cell? p = some u) : YieldsIf Tryd.prog ops S o u a := by
  refine .inl ⟨hw, fun w hb => ?_⟩
  have hc := hS w hb
  have hu := Tryd.underlying5
  obtain ⟨dst, op, type, pos, after, guard⟩ := o
  simp only at ho
  subst ho
  simp only [execOp, Sem.run_bind, Sem.run_pure]
  rw [hx]
  simp [Instr.loadAt, go_sem, hc]
set_option maxHeartbeats 400000 in
theorem part_any (ad : Option Addr) (len cap lo n : Nat) (bs : List Nat) (w : World) (hl : bs.length = len) (hb : Seg .u8 w ad (toI bs)) (hin : lo + n ≤ len) (h3 : len ≤ 140737488355328) :
    Calls Tryd.prog 37 #[.slice ad len cap, .int .i64 lo, .int .i64 ((lo : Int) + n)] w fun e w' => ∃ v, e = .returned v ∧
      w'.ownsRow w.heap.size 5 1 v n ((toI ((bs.drop lo).take n)).map (Value.int .u8)) ∧ Below w.heap.size w w' := by
  subst hl
  obtain ⟨i0, hi, hz0, hz1, hz2⟩ := info_parts Tryd.infoByte
  go_enter Tryd.func37, Tryd.ntmps37
  go_wp2
  go_loopw [7, 8] (fun l ix wr => ∃ k : Nat, k ≤ n ∧ ix = .int .i64 ((lo + k : Nat) : Int) ∧ wr.ownsRow w.heap.size 5 1 l k ((toI ((bs.drop lo).take k)).map (Value.int .u8)) ∧ Below w.heap.size w wr) (fun _ ix _ => lo + n - (intOf ix).toNat)
  case atStart => exact ⟨0, Nat.zero_le _, by go_num, World.ownsRow_nil _ _ _ _, Below.refl _ _⟩
  case round =>
    obtain ⟨k, hk, rfl, hown, hbel⟩ := hrel
    by_cases hlt : k < n
    · have hb1 := hb.old hbel
      rcases hb1 with hnil | ⟨b, off, rfl, hc⟩
      · exact absurd hnil (toI_ne bs (by omega))
      have hcell := hc (lo + k) (by rw [toI_len]; omega)
      rw [toI_getD] at hcell
      obtain ⟨y, hy⟩ : ∃ y, y = bs.getD (lo + k) 0 := ⟨_, rfl⟩
      rw [← hy] at hcell
      have hst : (toI ((bs.drop lo).take (k + 1))).map (Value.int .u8) = (toI ((bs.drop lo).take k)).map (Value.int .u8) ++ [.int .u8 (y : Int)] := by
        have hkl : k < (bs.drop lo).length := by simp; omega
        have hkl2 : lo + k < bs.length := by omega
        rw [List.take_succ_eq_append_getElem hkl]
        simp [toI, hy, List.getD, hkl2]
      have HS : Hid _ := hst
      clear hc hy hst
      go_wp2_with (first | (at_builtin; refine wpList_append_own _ rfl _ _ 25 rfl w.heap.size 5 i0 (.int .u8 0) 1 1 Tryd.underlying25 hi hz0 hz1 hz2 rfl (by decide) _ _ _ rfl (hown.alloc _) ⟨wr.heap.size, 0, none⟩ 1 1 [.int .u8 (y : Int)] rfl rfl ?c1 ?c2 ?c3 ?c4 ?c5 ?_))
      case c1 => exact cell_one_new _ _ _
      case c2 => intro u hu; simp at hu; subst hu; rfl
      case c3 => unfold maxLen; omega
      case c4 => omega
      case c5 => have := hbel.size; simp; omega
      intro v' w1 hown1 hgrow1 _
      have hbel1 : Below w.heap.size w w1 := (hbel.alloc hbel.size _).grown hgrow1 (by have := hbel.size; simp; omega) (fun j hj => (hown.lt j hj).1)
      rw [← HS.out] at hown1
      clear hgrow1 hown hbel
      go_wp2
      go_roundw
      case rel => exact ⟨k + 1, by omega, by go_num, hown1, hbel1⟩
      case measure => simp [intOf]; omega
    · obtain rfl : k = n := by omega
      go_wp2
      go_ret
      exact ⟨_, rfl, hown, hbel⟩

set_option maxHeartbeats 3200000 in
set_option maxRecDepth 100000 in
theorem rParse_any (v V U : Int) (x y : Nat → Nat) (a : Option Addr) (n cap : Nat) (bs : List Nat) (w : World) (hn : bs.length = n) (hb : n ≤ 65515 → Seg .u8 w a (toI bs)) (h256 : ∀ z ∈ bs, z < 256) (h2 : n ≤ cap) (h3 : cap ≤ 9223372036854775807) (hx : ∀ i, i < 16 → x i < 256) (hy : ∀ i, i < 16 → y i < 256) :
    Calls Tryd.prog 14 #[.int .i64 v, .agg (ipCells V x), .agg (ipCells U y), .slice a n cap] w fun e w' => ∃ er va vc, e = .returned (.tuple #[.agg (if er = 0 then mC (I8.pM v bs) va (n - 8) vc else mC m8z none 0 0), .int .i64 (er : Nat)]) ∧ Below w.heap.size w w' ∧ er = I8.pE v (six6 V U) (psB v V U x y n) bs ∧ (er = 0 → Seg .u8 w' va (toI (bs.drop 8))) := by
  obtain ⟨A, hA⟩ : ∃ A, A = ipCells V x := ⟨_, rfl⟩
  obtain ⟨C, hC⟩ : ∃ C, C = ipCells U y := ⟨_, rfl⟩
  have hx1 := boxed_new w V x 24
  have hy1 := boxed_new (w.alloc (.cells (ipCells V x) 24)) U y 24
  rw [World.size_alloc] at hy1
  have hx2 := hx1.old ((Below.refl _ _).alloc (Nat.le_refl _) (.cells (ipCells U y) 24))
  clear hx1
  rw [← hA] at hx2 hy1 ⊢
  rw [← hC] at hx2 hy1 ⊢
  obtain ⟨W0, hW0⟩ : ∃ W0, W0 = (w.alloc (.cells A 24)).alloc (.cells C 24) := ⟨_, rfl⟩
  have b0 : Below w.heap.size w W0 := by rw [hW0]; exact ((Below.refl _ _).alloc (Nat.le_refl _) _).alloc (by simp) _
  have s0 : W0.heap.size = w.heap.size + 1 + 1 := by rw [hW0]; simp
  rw [← hW0] at hx2 hy1
  have hr := mAt_new W0 m8z none 0 0
  have b1 : Below W0.heap.size W0 (W0.alloc (.cells (mC m8z none 0 0) 27)) := (Below.refl _ _).alloc (Nat.le_refl _) _
  obtain ⟨W1, hW1⟩ : ∃ W1, W1 = W0.alloc (.cells (mC m8z none 0 0) 27) := ⟨_, rfl⟩
  have s1 : W1.heap.size = w.heap.size + 1 + 1 + 1 := by rw [hW1]; simp [s0]
  rw [← hW1] at hr b1
  have hz := mAt_new W1 m8z none 0 0
  have b2 : Below W1.heap.size W1 (W1.alloc (.cells (mC m8z none 0 0) 27)) := (Below.refl _ _).alloc (Nat.le_refl _) _
  obtain ⟨W, hW⟩ : ∃ W, W = W1.alloc (.cells (mC m8z none 0 0) 27) := ⟨_, rfl⟩
  rw [← hW] at hz b2
  have bel : Below w.heap.size w W := bthen (bthen b0 b1) b2
  have hx3 := (hx2.old b1).old b2
  have hy3 := (hy1.old b1).old b2
  have hr3 := hr.below b2
  rw [s0] at hr3
  rw [s1] at hz
  have HW : Hid ((((w.alloc (.cells A 24)).alloc (.cells C 24)).alloc (.cells #[.int .i64 0, .int .i64 0, .int .i64 0, .int .i64 0, .slice none 0 0] 27)).alloc (.cells #[.int .i64 0, .int .i64 0, .int .i64 0, .int .i64 0, .slice none 0 0] 27) = W) := by show _ = _; rw [hW, hW1, hW0]; rfl
  obtain ⟨B, hB⟩ : ∃ B, B = w.heap.size := ⟨_, rfl⟩
  have HB : Hid (w.heap.size = B) := hB.symm
  rw [← hB] at hr3 hx3 hy3 hz
  have HR : Hid (MAt W (B + 1 + 1) m8z none 0 0) := hr3
  have HZ : Hid (MAt W (B + 1 + 1 + 1) m8z none 0 0) := hz
  have HX : Hid (Boxed W B V x) := hx3
  have HY : Hid (Boxed W (B + 1) U y) := hy3
  have HXX : Hid (∀ i, i < 16 → x i < 256) := hx
  have HYY : Hid (∀ i, i < 16 → y i < 256) := hy
  have HN : Hid (bs.length = n) := hn
  have H256 : Hid (∀ z ∈ bs, z < 256) := h256
  have HSEGc : Hid (n ≤ 65515 → ∀ A, Below w.heap.size w A → Seg .u8 A a (toI bs)) := fun hn A hA => (hb hn).old hA
  obtain ⟨E, hE⟩ : ∃ E, E = I8.pE v (six6 V U) (psB v V U x y n) bs := ⟨_, rfl⟩
  rw [← hE]
  obtain ⟨psx, hpsx⟩ : ∃ psx, psx = psX v V U := ⟨_, rfl⟩
  have HPSX : Hid (psx = psX v V U) := hpsx
  have HEX : Hid (E = if 65515 < n then 2 else if I8.isV v then (if psx = 0 then (if n < 8 then 80 else if S.fold (S.wv false (psB v V U x y n ++ bs)) = 65535 then 0 else 81) else 20) else 1) := by
    show _ = _
    rw [hE, hpsx]
    unfold I8.pE psX
    rw [hn]
    by_cases c6 : v = 6 ∧ six6 V U = false
    · simp [c6]
    · rw [if_neg c6, if_neg c6]; simp
  clear hA hC hx2 hy1 hW0 b0 s0 hr b1 hW1 s1 hz b2 hW hx3 hy3 hr3 hB hx hy hn hb h256 hE hpsx
  by_cases c1 : 65515 < n
  · have c1' : (65515 : Int) < (n : Int) := by omega
    rw [if_pos c1] at HEX
    have HE : Hid (E = 2) := HEX.out
    clear c1 HEX
    go_enter Tryd.func14, Tryd.ntmps14
    go_upto_region 2 with fail
    rw [HB.out, HW.out]
    go_wp2_with (first | (refine wpList_load_m8 (.tmp 10) rfl (B + 1 + 1 + 1) m8z none 0 0 rfl HZ.out rfl ?_) | (refine wpList_store_m8 (.tmp 8) _ rfl rfl (B + 1 + 1) m8z m8z none none 0 0 0 0 rfl rfl HR.out rfl ?_))
    intro wE hRE kE
    have HRE : Hid (MAt wE (B + 1 + 1) m8z none 0 0) := hRE
    have HFE : Hid (Below w.heap.size w wE) := bel.trans (kE.below (fun q e => by have e' : q = B + 1 + 1 := e; have := HB.out; omega) bel.size)
    clear hRE kE
    go_wp2
    (try simp only [Exit.inBlock, Exit.then])
    refine bodyPost_ret (results_m8_tmp rfl _ _ (B + 1 + 1) m8z none 0 0 rfl HRE.out) rfl ?_
    exact ⟨E, none, 0, (by rw [HE.out]; rfl), HFE.out, rfl, (fun h => by rw [HE.out] at h; cases h)⟩
  rw [if_neg c1] at HEX
  have c1' : ¬ (65515 : Int) < (n : Int) := by omega
  have c1b : n ≤ 65515 := by omega
  have HSEG : Hid (∀ A, Below w.heap.size w A → Seg .u8 A a (toI bs)) := HSEGc.out c1b
  clear c1 HSEGc
  by_cases hv : I8.isV v = true
  case neg =>
    have hv' : I8.isV v = false := by simpa using hv
    rw [hv'] at HEX
    have HE : Hid (E = 1) := HEX.out
    have e4 : (v != 4) = true := by rw [bne_iff_ne]; rintro rfl; exact hv rfl
    have e6 : (v != 6) = true := by rw [bne_iff_ne]; rintro rfl; exact hv rfl
    clear HEX hv hv'
    go_enter Tryd.func14, Tryd.ntmps14
    go_upto_region 2 with fail
    rw [HB.out, HW.out]
    go_wp2_with (first | (refine wpList_load_m8 (.tmp 10) rfl (B + 1 + 1 + 1) m8z none 0 0 rfl HZ.out rfl ?_) | (refine wpList_store_m8 (.tmp 8) _ rfl rfl (B + 1 + 1) m8z m8z none none 0 0 0 0 rfl rfl HR.out rfl ?_))
    intro wE hRE kE
    have HRE : Hid (MAt wE (B + 1 + 1) m8z none 0 0) := hRE
    have HFE : Hid (Below w.heap.size w wE) := bel.trans (kE.below (fun q e => by have e' : q = B + 1 + 1 := e; have := HB.out; omega) bel.size)
    clear hRE kE
    go_wp2
    (try simp only [Exit.inBlock, Exit.then])
    refine bodyPost_ret (results_m8_tmp rfl _ _ (B + 1 + 1) m8z none 0 0 rfl HRE.out) rfl ?_
    exact ⟨E, none, 0, (by rw [HE.out]; rfl), HFE.out, rfl, (fun h => by rw [HE.out] at h; cases h)⟩
  rw [hv, if_pos rfl] at HEX
  have HV : Hid (I8.isV v = true) := hv
  go_enter Tryd.func14, Tryd.ntmps14
  go_upto_region 2 with fail
  rw [HB.out, HW.out]
  clear HW
  go_upto_region 4 with fail
  go_cut [17] (fun s17 wx => s17 = .bool false ∧ wx = W)
  case first =>
    rcases ver_cases hv with h4 | h6
    · have e4 : (v != 4) = false := by rw [h4]; rfl
      clear h4
      go_wp2
      go_meet
      exact ⟨rfl, rfl⟩
    · have e4 : (v != 4) = true := by rw [h6]; rfl
      have e6 : (v != 6) = false := by rw [h6]; rfl
      clear h6
      go_wp2
      go_meet
      exact ⟨rfl, rfl⟩
  case rest =>
  obtain ⟨rfl, rfl⟩ := hcut
  go_upto_region 6 with fail
  go_cut [25] (fun s25 wx => s25 = .bool (decide (psx ≠ 0)) ∧ MAt wx (B + 1 + 1) m8z none 0 0 ∧ MAt wx (B + 1 + 1 + 1) m8z none 0 0 ∧ Boxed wx B V x ∧ Boxed wx (B + 1) U y ∧ Below w.heap.size w wx)
  case first =>
    rcases ver_cases hv with h4 | h6
    · have e6 : (v == 6) = false := by rw [h4]; rfl
      have hz : psx = 0 := by rw [HPSX.out]; unfold psX; rw [if_neg (by omega)]
      clear h4 hv
      go_wp2
      go_meet
      exact ⟨by rw [hz]; rfl, HR.out, HZ.out, HX.out, HY.out, bel⟩
    · have e6 : (v == 6) = true := by rw [h6]; rfl
      have hs : (!six6 V U) = decide (psx ≠ 0) := by
        rw [HPSX.out]
        unfold psX
        cases hh : six6 V U with
        | true => rw [if_neg (by simp)]; rfl
        | false => rw [if_pos ⟨h6, rfl⟩]; rfl
      have HS : Hid _ := hs
      clear h6 hv hs
      go_wp2_with (first | (refine wpList_load_ip (.tmp 5) rfl B V x rfl HX.out rfl ?_) | (refine wpList_load_ip (.tmp 6) rfl (B + 1) U y rfl HY.out rfl ?_))
      refine Calls.mono (six8_any V U x y _) ?_
      rintro e w1 ⟨rfl, hb1⟩
      have bel1 := bthen bel hb1
      have HR1 := HR.out.below hb1
      have HZ1 := HZ.out.below hb1
      have HX1 := HX.out.old hb1
      have HY1 := HY.out.old hb1
      clear hb1
      go_wp2
      go_meet
      exact ⟨by rw [← HS.out], HR1, HZ1, HX1, HY1, bel1⟩
  case rest =>
  obtain ⟨rfl, r1, z1, bx1, by1, bel1⟩ := hcut
  have HR1 : Hid (MAt wc (B + 1 + 1) m8z none 0 0) := r1
  have HZ1 : Hid (MAt wc (B + 1 + 1 + 1) m8z none 0 0) := z1
  have HX1 : Hid (Boxed wc B V x) := bx1
  have HY1 : Hid (Boxed wc (B + 1) U y) := by1
  clear r1 z1 bx1 by1 HR HZ HX HY hv
  by_cases z : psx = 0
  case neg =>
    rw [if_neg z] at HEX
    have HE : Hid (E = 20) := HEX.out
    have hd : decide (psx ≠ 0) = true := decide_eq_true z
    rw [hd]
    clear z hd HEX
    go_wp2_with (first | (refine wpList_load_m8 (.tmp 10) rfl (B + 1 + 1 + 1) m8z none 0 0 rfl HZ1.out rfl ?_) | (refine wpList_store_m8 (.tmp 8) _ rfl rfl (B + 1 + 1) m8z m8z none none 0 0 0 0 rfl rfl HR1.out rfl ?_))
    intro wE hRE kE
    have HRE : Hid (MAt wE (B + 1 + 1) m8z none 0 0) := hRE
    have HFE : Hid (Below w.heap.size w wE) := bel1.trans (kE.below (fun q e => by have e' : q = B + 1 + 1 := e; have := HB.out; omega) bel1.size)
    clear hRE kE
    go_wp2
    (try simp only [Exit.inBlock, Exit.then])
    refine bodyPost_ret (results_m8_tmp rfl _ _ (B + 1 + 1) m8z none 0 0 rfl HRE.out) rfl ?_
    exact ⟨E, none, 0, (by rw [HE.out]; rfl), HFE.out, rfl, (fun h => by rw [HE.out] at h; cases h)⟩
  have hd : decide (psx ≠ 0) = false := by rw [z]; rfl
  rw [hd]
  rw [if_pos z] at HEX
  have HPX0 : Hid (psX v V U = 0) := by rw [← HPSX.out]; exact z
  clear hd z HPSX
  by_cases c8 : n < 8
  · rw [if_pos c8] at HEX
    have HE : Hid (E = 80) := HEX.out
    have c8' : (n : Int) < 8 := by omega
    clear c8 HEX
    go_wp2_with (first | (refine wpList_load_m8 (.tmp 10) rfl (B + 1 + 1 + 1) m8z none 0 0 rfl HZ1.out rfl ?_) | (refine wpList_store_m8 (.tmp 8) _ rfl rfl (B + 1 + 1) m8z m8z none none 0 0 0 0 rfl rfl HR1.out rfl ?_))
    intro wE hRE kE
    have HRE : Hid (MAt wE (B + 1 + 1) m8z none 0 0) := hRE
    have HFE : Hid (Below w.heap.size w wE) := bel1.trans (kE.below (fun q e => by have e' : q = B + 1 + 1 := e; have := HB.out; omega) bel1.size)
    clear hRE kE
    go_wp2
    (try simp only [Exit.inBlock, Exit.then])
    refine bodyPost_ret (results_m8_tmp rfl _ _ (B + 1 + 1) m8z none 0 0 rfl HRE.out) rfl ?_
    exact ⟨E, none, 0, (by rw [HE.out]; rfl), HFE.out, rfl, (fun h => by rw [HE.out] at h; cases h)⟩
  rw [if_neg c8] at HEX
  have c8' : ¬ (n : Int) < 8 := by omega
  have h8 : 8 ≤ n := by omega
  have HP : Hid (∀ A, Below w.heap.size w A → Part.ok A ⟨a, cap, bs⟩) := fun A hA => ⟨HSEG.out A hA, H256.out, by show bs.length ≤ cap; rw [HN.out]; exact h2, h3⟩
  have QP : Hid _ := rparts_any v V U x y a n cap bs wc HN.out (HP.out wc bel1) HV.out HPX0.out (by omega) HXX.out HYY.out
  clear c8
  go_wp2_with (first | (refine wpList_load_ip (.tmp 5) rfl B V x rfl HX1.out rfl ?_) | (refine wpList_load_ip (.tmp 6) rfl (B + 1) U y rfl HY1.out rfl ?_))
  refine Calls.mono QP.out ?_
  rintro e w2 ⟨X, k, ps, rfl, hpl, hk2, hps, hall, hb2⟩
  have bel2 := bthen bel1 hb2
  have HR2 : Hid (MAt w2 (B + 1 + 1) m8z none 0 0) := HR1.out.below hb2
  have HZ2 : Hid (MAt w2 (B + 1 + 1 + 1) m8z none 0 0) := HZ1.out.below hb2
  have QG : Hid _ := rgood_any (some ⟨X, 0, none⟩) k k ps w2 hpl hps (by rw [hall, List.length_append, HN.out]; have := psB_len v V U x y n; omega) (by omega)
  rw [hall] at QG
  clear hps hall hpl hb2 QP HR1 HZ1 HX1 HY1
  go_wp2_with fail
  refine Calls.mono QG.out ?_
  rintro e w3 ⟨rfl, rfl⟩
  clear QG
  cases dg : decide (S.fold (S.wv false (psB v V U x y n ++ bs)) = 65535) with
  | false =>
    rw [if_neg (of_decide_eq_false dg)] at HEX
    have HE : Hid (E = 81) := HEX.out
    clear HEX dg
    go_wp2_with (first | (refine wpList_load_m8 (.tmp 10) rfl (B + 1 + 1 + 1) m8z none 0 0 rfl HZ2.out rfl ?_) | (refine wpList_store_m8 (.tmp 8) _ rfl rfl (B + 1 + 1) m8z m8z none none 0 0 0 0 rfl rfl HR2.out rfl ?_))
    intro wE hRE kE
    have HRE : Hid (MAt wE (B + 1 + 1) m8z none 0 0) := hRE
    have HFE : Hid (Below w.heap.size w wE) := bel2.trans (kE.below (fun q e => by have e' : q = B + 1 + 1 := e; have := HB.out; omega) bel2.size)
    clear hRE kE
    go_wp2
    (try simp only [Exit.inBlock, Exit.then])
    refine bodyPost_ret (results_m8_tmp rfl _ _ (B + 1 + 1) m8z none 0 0 rfl HRE.out) rfl ?_
    exact ⟨E, none, 0, (by rw [HE.out]; rfl), HFE.out, rfl, (fun h => by rw [HE.out] at h; cases h)⟩
  | true =>
  rw [if_pos (of_decide_eq_true dg)] at HEX
  have HE : Hid (E = 0) := HEX.out
  clear HEX dg
  obtain ⟨gb, ob, rfl, hcs⟩ := seg_at (HSEG.out w2 bel2) 0 (by rw [HN.out]; omega)
  have HC : Hid (∀ j, j < n → w2.cell? ⟨gb, ob + j, none⟩ = some (.int .u8 ((bs.getD j 0 : Nat) : Int))) := fun j hj => hcs j (by rw [HN.out]; exact hj)
  have e4 : w2.cell? ⟨gb, ob + 4, none⟩ = some (.int .u8 ((bs.getD 4 0 : Nat) : Int)) := HC.out 4 (by omega)
  have e5 : w2.cell? ⟨gb, ob + 5, none⟩ = some (.int .u8 ((bs.getD 5 0 : Nat) : Int)) := HC.out 5 (by omega)
  have e6 : w2.cell? ⟨gb, ob + 6, none⟩ = some (.int .u8 ((bs.getD 6 0 : Nat) : Int)) := HC.out 6 (by omega)
  have e7 : w2.cell? ⟨gb, ob + 7, none⟩ = some (.int .u8 ((bs.getD 7 0 : Nat) : Int)) := HC.out 7 (by omega)
  have g4 := I8.getD_lt bs H256.out 4
  have g5 := I8.getD_lt bs H256.out 5
  have g6 := I8.getD_lt bs H256.out 6
  have g7 := I8.getD_lt bs H256.out 7
  obtain ⟨br, hbr⟩ : ∃ br, br = ((bs.getD 4 0 * 256 + bs.getD 5 0) * 256 + bs.getD 6 0) * 256 + bs.getD 7 0 := ⟨_, rfl⟩
  obtain ⟨b4, hb4⟩ : ∃ b, b = bs.getD 4 0 := ⟨_, rfl⟩
  obtain ⟨b5, hb5⟩ : ∃ b, b = bs.getD 5 0 := ⟨_, rfl⟩
  obtain ⟨b6, hb6⟩ : ∃ b, b = bs.getD 6 0 := ⟨_, rfl⟩
  obtain ⟨b7, hb7⟩ : ∃ b, b = bs.getD 7 0 := ⟨_, rfl⟩
  have HBR : Hid (br = ((bs.getD 4 0 * 256 + bs.getD 5 0) * 256 + bs.getD 6 0) * 256 + bs.getD 7 0) := hbr
  rw [← hb4] at e4 g4 hbr
  rw [← hb5] at e5 g5 hbr
  rw [← hb6] at e6 g6 hbr
  rw [← hb7] at e7 g7 hbr
  have m4 : IntKind.i64.wrap ((b4 : Int) * 16777216) = (b4 : Int) * 16777216 := by rw [IntKind.wrap_i64]; omega
  have m5 : IntKind.i64.wrap ((b5 : Int) * 65536) = (b5 : Int) * 65536 := by rw [IntKind.wrap_i64]; omega
  have m6 : IntKind.i64.wrap ((b6 : Int) * 256) = (b6 : Int) * 256 := by rw [IntKind.wrap_i64]; omega
  have a1 : IntKind.i64.wrap ((b4 : Int) * 16777216 + (b5 : Int) * 65536) = (b4 : Int) * 16777216 + (b5 : Int) * 65536 := by rw [IntKind.wrap_i64]; omega
  have a2 : IntKind.i64.wrap ((b4 : Int) * 16777216 + (b5 : Int) * 65536 + (b6 : Int) * 256) = (b4 : Int) * 16777216 + (b5 : Int) * 65536 + (b6 : Int) * 256 := by rw [IntKind.wrap_i64]; omega
  have a3 : IntKind.i64.wrap ((b4 : Int) * 16777216 + (b5 : Int) * 65536 + (b6 : Int) * 256 + (b7 : Int)) = (br : Int) := by rw [IntKind.wrap_i64]; omega
  clear hb4 hb5 hb6 hb7 hbr hcs
  go_upto_region 12 with fail
  refine MixH.start (fun A => Below w2.heap.size w2 A) (by kernel_rfl) ?_
  obtain ⟨wA, hwA⟩ : ∃ wA, wA = w2.drew := ⟨_, rfl⟩
  have hS : Below w2.heap.size w2 wA := by rw [hwA]; exact (Below.refl _ _).drew
  rw [← hwA]
  clear hwA
  refine MixH.takes [true, true, false, false, false, true, true, false, false, false, false, true, true, false, false, false, false, true, true] 15 (by kernel_rfl) (by kernel_rfl) (by decide) (by kernel_rfl) hS (fun K hK => ?_)
  simp only [Mix.pick]
  repeat (go_big_quiet_step (fail))
  refine wpQuiet_nil (hK _ ?_)
  clear hK K
  refine MixH.take 14 2 _ (.int .u8 (b4 : Nat)) rfl (by kernel_rfl) (by kernel_rfl) (by kernel_rfl) (by kernel_rfl) (yields_u8 (.tmp 50) rfl ⟨gb, ob + 4, none⟩ _ rfl rfl (fun A hA => (hA.cell (p := ⟨gb, ob + 4, none⟩) (World.block_lt_of_cell? w2 _ e4)).trans e4)) hS (fun a' ha => ?_)
  simp only [Act.put, List.setIfInBounds_toArray, List.set_cons_succ, List.set_cons_zero] at ha
  subst ha
  refine MixH.take 13 7 _ (.int .u8 (b5 : Nat)) rfl (by kernel_rfl) (by kernel_rfl) (by kernel_rfl) (by kernel_rfl) (yields_u8 (.tmp 55) rfl ⟨gb, ob + 5, none⟩ _ rfl rfl (fun A hA => (hA.cell (p := ⟨gb, ob + 5, none⟩) (World.block_lt_of_cell? w2 _ e5)).trans e5)) hS (fun a' ha => ?_)
  simp only [Act.put, List.setIfInBounds_toArray, List.set_cons_succ, List.set_cons_zero] at ha
  subst ha
  refine MixH.take 12 13 _ (.int .u8 (b6 : Nat)) rfl (by kernel_rfl) (by kernel_rfl) (by kernel_rfl) (by kernel_rfl) (yields_u8 (.tmp 61) rfl ⟨gb, ob + 6, none⟩ _ rfl rfl (fun A hA => (hA.cell (p := ⟨gb, ob + 6, none⟩) (World.block_lt_of_cell? w2 _ e6)).trans e6)) hS (fun a' ha => ?_)
  simp only [Act.put, List.setIfInBounds_toArray, List.set_cons_succ, List.set_cons_zero] at ha
  subst ha
  refine MixH.take 11 19 _ (.int .u8 (b7 : Nat)) rfl (by kernel_rfl) (by kernel_rfl) (by kernel_rfl) (by kernel_rfl) (yields_u8 (.tmp 67) rfl ⟨gb, ob + 7, none⟩ _ rfl rfl (fun A hA => (hA.cell (p := ⟨gb, ob + 7, none⟩) (World.block_lt_of_cell? w2 _ e7)).trans e7)) hS (fun a' ha => ?_)
  simp only [Act.put, List.setIfInBounds_toArray, List.set_cons_succ, List.set_cons_zero] at ha
  subst ha
  refine MixH.takes [false, false, false, true, false, false, false, false, true, false, false, false, false, false, true, false, false, false, false, false, true] 7 (by kernel_rfl) (by kernel_rfl) (by decide) (by kernel_rfl) hS (fun K hK => ?_)
  simp only [Mix.pick]
  repeat (go_big_quiet_step (fail))
  refine wpQuiet_nil (hK _ ?_)
  clear hK K
  refine MixH.takes [false, false, false, false, true, false, false, false, false, true, false, false, false, false, false, true] 4 (by kernel_rfl) (by kernel_rfl) (by decide) (by kernel_rfl) hS (fun K hK => ?_)
  simp only [Mix.pick]
  repeat (go_big_quiet_step (fail))
  refine wpQuiet_nil (hK _ ?_)
  clear hK K
  refine MixH.takes [false, false, false, false, false, false, false, false, false, false, true] 3 (by kernel_rfl) (by kernel_rfl) (by decide) (by kernel_rfl) hS (fun K hK => ?_)
  simp only [Mix.pick]
  repeat (go_big_quiet_step (fail))
  refine wpQuiet_nil (hK _ ?_)
  clear hK K
  refine MixH.takes [false, false, false, false, false, false, false, false, false, false, false, false, false, false, false, false, true] 2 (by kernel_rfl) (by kernel_rfl) (by decide) (by kernel_rfl) hS (fun K hK => ?_)
  simp only [Mix.pick]
  repeat (go_big_quiet_step (fail))
  refine wpQuiet_nil (hK _ ?_)
  clear hK K
  refine MixH.takes [false, false, false, false, false, false, false, false, false, false, false, false, false, false, false, false, false, false, false, false, false, true] 1 (by kernel_rfl) (by kernel_rfl) (by decide) (by kernel_rfl) hS (fun K hK => ?_)
  simp only [Mix.pick]
  repeat (go_big_quiet_step (fail))
  refine wpQuiet_nil (hK _ ?_)
  clear hK K
  refine MixH.takes [false, false, false, false, false, false, false, false, false, false, false, false, false, false, false, false, false, false, false, false, false, false, true] 0 (by kernel_rfl) (by kernel_rfl) (by decide) (by kernel_rfl) hS (fun K hK => ?_)
  simp only [Mix.pick]
  repeat (go_big_quiet_step (fail))
  refine wpQuiet_nil (hK _ ?_)
  clear hK K
  refine MixH.done (by kernel_rfl) ?_
  have bel3 := bthen bel2 hS
  have HR3 : Hid (MAt wA (B + 1 + 1) m8z none 0 0) := HR2.out.below hS
  have HGB : Hid (gb < w.heap.size) := by
    rcases HSEG.out w (Below.refl _ _) with h0 | ⟨b', o', e, hc⟩
    · have := congrArg List.length h0
      rw [toI_len, HN.out] at this
      simp at this
      omega
    · have e' := Option.some.inj e
      have e2 : gb = b' := congrArg Addr.block e'
      rw [e2]
      exact World.block_lt_of_cell? w _ (hc 0 (by rw [toI_len, HN.out]; omega))
  have HD0 : Hid (wA.cell? ⟨gb, ob + 0, none⟩ = some (.int .u8 ((bs.getD 0 0 : Nat) : Int))) := (hS.cell (p := ⟨gb, ob + 0, none⟩) (World.block_lt_of_cell? w2 _ (HC.out 0 (by omega)))).trans (HC.out 0 (by omega))
  have HD1 : Hid (wA.cell? ⟨gb, ob + 1, none⟩ = some (.int .u8 ((bs.getD 1 0 : Nat) : Int))) := (hS.cell (p := ⟨gb, ob + 1, none⟩) (World.block_lt_of_cell? w2 _ (HC.out 1 (by omega)))).trans (HC.out 1 (by omega))
  obtain ⟨b0, hb0⟩ : ∃ b, b = bs.getD 0 0 := ⟨_, rfl⟩
  obtain ⟨b1, hb1⟩ : ∃ b, b = bs.getD 1 0 := ⟨_, rfl⟩
  have g0 : b0 < 256 := by rw [hb0]; exact I8.getD_lt bs H256.out 0
  have g1 : b1 < 256 := by rw [hb1]; exact I8.getD_lt bs H256.out 1
  have HM : Hid (I8.pM v bs = ⟨v, (b0 : Nat), (b1 : Nat), (br : Nat), bs.drop 8⟩) := by
    show _ = _
    rw [hb0, hb1, HBR.out]
    rfl
  rw [← hb0] at HD0
  rw [← hb1] at HD1
  clear hS HR2 HZ2 hb0 hb1 HC e4 e5 e6 e7 g4 g5 g6 g7 m4 m5 m6 a1 a2 a3 HBR
  go_upto_region 13 with fail
  refine MixH.start (fun A => Ch (fun q => q = B + 1 + 1) wA A) (by kernel_rfl) ?_
  obtain ⟨wB, hwB⟩ : ∃ wB, wB = wA.drew := ⟨_, rfl⟩
  have hS : Ch (fun q => q = B + 1 + 1) wA wB := by rw [hwB]; exact (Ch.refl _ _).drew
  have belB : Below w.heap.size w wB := by rw [hwB]; exact bel3.drew
  have HRB : Hid (MAt wB (B + 1 + 1) m8z none 0 0) := by rw [hwB]; exact HR3.out
  rw [← hwB]
  clear hwB HR3
  have HGN : Hid (gb ≠ B + 1 + 1) := by have := HGB.out; have := HB.out; show gb ≠ _; omega
  refine MixH.takes [true, true, true, false, false, true, true, false, false, true, true, true, true] 8 (by kernel_rfl) (by kernel_rfl) (by decide) (by kernel_rfl) hS (fun K hK => ?_)
  simp only [Mix.pick]
  repeat (go_big_quiet_step (fail))
  refine wpQuiet_nil (hK _ ?_)
  clear hK K
  refine MixH.take 7 3 _ (.int .u8 (b0 : Nat)) rfl (by kernel_rfl) (by kernel_rfl) (by kernel_rfl) (by kernel_rfl) (yields_u8 (.tmp 73) rfl ⟨gb, ob + 0, none⟩ _ rfl rfl (fun A hA => hA.cell HD0.out HGN.out)) hS (fun a' ha => ?_)
  simp only [Act.put, List.setIfInBounds_toArray, List.set_cons_succ, List.set_cons_zero] at ha
  subst ha
  refine MixH.take 6 7 _ (.int .u8 (b1 : Nat)) rfl (by kernel_rfl) (by kernel_rfl) (by kernel_rfl) (by kernel_rfl) (yields_u8 (.tmp 77) rfl ⟨gb, ob + 1, none⟩ _ rfl rfl (fun A hA => hA.cell HD1.out HGN.out)) hS (fun a' ha => ?_)
  simp only [Act.put, List.setIfInBounds_toArray, List.set_cons_succ, List.set_cons_zero] at ha
  subst ha
  refine MixH.takes [false, false, false, false, true, false, false, false, true] 4 (by kernel_rfl) (by kernel_rfl) (by decide) (by kernel_rfl) hS (fun K hK => ?_)
  simp only [Mix.pick]
  repeat (go_big_quiet_step (fail))
  refine wpQuiet_nil (hK _ ?_)
  clear hK K
  refine MixH.one [false, false, false, false, false, false, false, false, false, false, false, false, false, true] 3 13 _ rfl rfl (by kernel_rfl) (by kernel_rfl) (fun K hK => ?_)
  simp only [Mix.pick]
  have Q1 := part_any (some ⟨gb, ob, none⟩) n cap 8 (n - 8) bs wB HN.out (HSEG.out wB belB) (by omega) (by omega)
  have ee : (8 : Int) + ((n - 8 : Nat) : Int) = (n : Int) := by omega
  have Q2 : Hid _ := Q1
  rw [show ((8 : Nat) : Int) = (8 : Int) from rfl, ee] at Q2
  clear Q1 ee
  go_wp2_with fail
  refine Calls.mono Q2.out ?_
  rintro e w5 ⟨vp, rfl, ho5, hb5⟩
  obtain ⟨va, vc, rfl⟩ := owns_shape ho5
  have HVS5 : Hid (Seg .u8 w5 va (toI (bs.drop 8))) := by
    obtain ⟨h1, _, _⟩ := owns_seg_at ho5
    rw [List.take_of_length_le (by rw [List.length_drop, HN.out]; omega)] at h1
    exact h1
  have HVL : Hid (∀ z, va = some z → z.block ≠ B + 1 + 1) := fun z hz => by
    have h1 := (ho5.lt z.block (by rw [hz]; rfl)).1
    have h2 := HRB.out.lt
    omega
  have HR5 : Hid (MAt w5 (B + 1 + 1) m8z none 0 0) := HRB.out.below hb5
  replace hS : Ch (fun q => q = B + 1 + 1) wA w5 := hS.trans (Ch.ofBelow hb5) (fun _ _ h => h)
  clear Q2 ho5 hb5
  go_wp2
  refine ⟨rfl, hK _ _ hS ?_⟩
  clear hK K
  refine MixH.takes [false, false, false, false, false, false, false, false, false, false, false, false, false, false, true] 2 (by kernel_rfl) (by kernel_rfl) (by decide) (by kernel_rfl) hS (fun K hK => ?_)
  simp only [Mix.pick]
  repeat (go_big_quiet_step (fail))
  refine wpQuiet_nil (hK _ ?_)
  clear hK K
  refine MixH.one [false, false, false, false, false, false, false, false, false, false, false, false, false, false, false, true] 1 15 _ rfl rfl (by kernel_rfl) (by kernel_rfl) (fun K hK => ?_)
  simp only [Mix.pick]
  go_wp2_with (first | (refine wpList_store_m8 (.tmp 8) (.tmp 85) rfl rfl (B + 1 + 1) m8z ⟨v, (b0 : Nat), (b1 : Nat), (br : Nat), bs.drop 8⟩ none va 0 0 (n - 8) vc rfl rfl HR5.out rfl ?_))
  intro wE hRE kE
  have HRE : Hid (MAt wE (B + 1 + 1) ⟨v, (b0 : Nat), (b1 : Nat), (br : Nat), bs.drop 8⟩ va (n - 8) vc) := hRE
  have HVS : Hid (Seg .u8 wE va (toI (bs.drop 8))) := kE.seg HVS5.out (fun z _ hz e => HVL.out z hz e)
  replace hS : Ch (fun q => q = B + 1 + 1) wA wE := hS.trans kE (fun _ _ h => h)
  clear hRE kE
  go_wp2
  refine ⟨rfl, hK _ _ hS ?_⟩
  clear hK K
  refine MixH.takes [false, false, false, false, false, false, false, false, false, false, false, false, false, false, false, false, true] 0 (by kernel_rfl) (by kernel_rfl) (by decide) (by kernel_rfl) hS (fun K hK => ?_)
  simp only [Mix.pick]
  repeat (go_big_quiet_step (fail))
  refine wpQuiet_nil (hK _ ?_)
  clear hK K
  refine MixH.done (by kernel_rfl) ?_
  have HFE : Hid (Below w.heap.size w wE) := bel3.trans (hS.below (fun q e => by have e' : q = B + 1 + 1 := e; have := HB.out; omega) bel3.size)
  clear hS
  go_wp2
  (try simp only [Exit.inBlock, Exit.then])
  refine bodyPost_ret (results_m8_tmp rfl _ _ (B + 1 + 1) ⟨v, (b0 : Nat), (b1 : Nat), (br : Nat), bs.drop 8⟩ va (n - 8) vc rfl HRE.out) rfl ?_
  exact ⟨E, va, vc, (by rw [HE.out, if_pos rfl, HM.out]; rfl), HFE.out, rfl, (fun _ => HVS.out)⟩
end Go.Proofs.YtkhalknpfikghaaDoor
