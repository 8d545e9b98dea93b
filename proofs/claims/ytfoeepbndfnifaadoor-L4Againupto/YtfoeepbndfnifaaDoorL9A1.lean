/-
  The document's own number, of layer 9.
-/
/-
  The document's own Sum, Check and Good (SRef, over I4Sum).
-/
/-
  The document's own Check (R6Sum's, over L9RSum).
-/
/-
  The document's own fit and good, of layer 9.
-/
/-
  The document's own out, length, add, tells, of layer 9.
-/
/-
  The document's own CheckUdp, summed, tells, of layer 9.
-/
/-
  The document's own summed and PutUdp, of layer 9.
-/
/-
  The document's own answer of layer 6: PutOptions.
-/
/-
  The document's own PutTcpOptions and CheckTcp, of layer 9.
-/
/-
  The document's own PutTcp, of layer 9.
-/
import Derived.Test.YtfoeepbndfnifaaDoorL9A0
import Derived.Test.YtfoeepbndfnifaaDoorI8Sum
import Derived.Test.YtfoeepbndfnifaaDoorI4Bld
import Derived.Test.YtfoeepbndfnifaaDoorL9Spec
import Derived.Test.YtfoeepbndfnifaaDoorPSplit
import Derived.Deep.DeepCutAuto
namespace Go.Proofs.YtfoeepbndfnifaaDoor
open Go.RowKit
open L4 (U9 T9)

/-- the number that stands there, the first byte greatest -/
def numB (bs : List Nat) (p : Nat) : Nat → Nat
  | 0 => 0
  | k + 1 => 256 * numB bs p k + bs.getD (p + k) 0
theorem numB_lt (bs : List Nat) (p k : Nat) (h : ∀ x ∈ bs, x < 256) : numB bs p k < 256 ^ k := by
  induction k with
  | zero => simp [numB]
  | succ k ih =>
    have := I4.getD_lt bs h (p + k)
    rw [numB, Nat.pow_succ]
    omega
set_option maxHeartbeats 1600000 in
set_option maxRecDepth 100000 in
theorem rnum_any (a : Option Addr) (n cap p m : Nat) (bs : List Nat) (w : World) (hd : DOk w bs a n cap) (hp : p + m ≤ n) (hm : m ≤ 4) :
    Calls Tryd.prog 35 #[.slice a n cap, .int .i64 (p : Int), .int .i64 (m : Int)] w fun e w' => e = .returned (.int .i64 ((numB bs p m : Nat) : Int)) ∧ w = w' := by
  have HD : Hid (DOk w bs a n cap) := hd
  have hn := hd.sm
  clear hd
  go_enter Tryd.func35, Tryd.ntmps35
  go_wp2
  go_loopw [7, 8] (fun vx ix wr => ∃ k : Nat, k ≤ m ∧ ix = .int .i64 k ∧ vx = .int .i64 ((numB bs p k : Nat) : Int) ∧ w = wr) (fun _ ix _ => m - (intOf ix).toNat)
  case atStart => exact ⟨0, Nat.zero_le _, rfl, rfl, rfl⟩
  case round =>
    obtain ⟨k, hk, rfl, rfl, rfl⟩ := hrel
    by_cases hlt : k < m
    · obtain ⟨b, off, rfl, hc⟩ := seg_at HD.out.seg (p + k) (by rw [HD.out.dl]; omega)
      have cx := hc (p + k) (by rw [HD.out.dl]; omega)
      have x256 := I4.getD_lt bs HD.out.d256 (p + k)
      have hv := numB_lt bs p k HD.out.d256
      have hv4 : (256 : Nat) ^ k ≤ 16777216 := by
        have h4 : k = 0 ∨ k = 1 ∨ k = 2 ∨ k = 3 := by omega
        rcases h4 with rfl | rfl | rfl | rfl <;> decide
      have hs : numB bs p (k + 1) = 256 * numB bs p k + bs.getD (p + k) 0 := rfl
      obtain ⟨X, hX⟩ : ∃ X, X = numB bs p k := ⟨_, rfl⟩
      obtain ⟨z, hz⟩ : ∃ z, z = bs.getD (p + k) 0 := ⟨_, rfl⟩
      rw [← hX, ← hz] at hs
      rw [← hX] at hv
      rw [← hz] at cx x256
      rw [← hX]
      have HS : Hid (numB bs p (k + 1) = 256 * X + z) := hs
      obtain ⟨q, hq⟩ : ∃ q, q = p + k := ⟨_, rfl⟩
      rw [← hq] at cx
      have hX24 : X < 16777216 := by omega
      have wq : IntKind.i64.wrap ((p : Int) + (k : Int)) = (q : Int) := by rw [IntKind.wrap_i64]; omega
      have wq2 : (p : Int) + (k : Int) = (q : Int) := by omega
      have q0 : (0 : Int) ≤ (q : Int) := by omega
      have q1 : (q : Int) < (n : Int) := by omega
      have q2 : ((q : Int)).toNat = q := by omega
      have k1 : (k : Int) < (m : Int) := by omega
      have wX : IntKind.i64.wrap (256 * (X : Int)) = 256 * (X : Int) := by rw [IntKind.wrap_i64]; omega
      have wS : IntKind.i64.wrap (256 * (X : Int) + (z : Int)) = 256 * (X : Int) + (z : Int) := by rw [IntKind.wrap_i64]; omega
      have wz : IntKind.i64.wrap (z : Int) = (z : Int) := by rw [IntKind.wrap_i64]; omega
      have wk : IntKind.i64.wrap ((k : Int) + 1) = (k : Int) + 1 := by rw [IntKind.wrap_i64]; omega
      clear hs hX hz hq hc hv hv4
      go_wp2
      go_roundw
      case rel => exact ⟨k + 1, by omega, by go_num, by rw [HS.out]; go_num, trivial⟩
      case measure => simp [intOf]; omega
    · have ek : k = m := by omega
      have hni : ¬ ((k : Int) < (m : Int)) := by omega
      subst ek
      go_wp2
      go_ret
      exact ⟨rfl, rfl⟩
end Go.Proofs.YtfoeepbndfnifaaDoor
namespace Go.Proofs.YtfoeepbndfnifaaDoor
open Go.RowKit

theorem rfolded_any (n : Nat) (w : World) (h : n < 9223372036854775807) : Calls Tryd.prog 88 #[.int .i64 n] w fun e w' => e = .returned (.int .i64 ((S.fold n : Nat) : Int)) ∧ w = w' := by
  by_cases h0 : n = 0
  · subst h0
    go_enter Tryd.func88, Tryd.ntmps88
    go_wp2
    go_ret
    exact ⟨ret1 (by simp [S.fold]), rfl⟩
  · have h1 : ((n : Int) == 0) = false := by simp; omega
    go_enter Tryd.func88, Tryd.ntmps88
    go_wp2
    go_ret
    refine ⟨ret1 ?_, rfl⟩
    rw [S.fold, if_neg h0]
    omega

theorem wv_snoc (l : List Nat) (x : Nat) : S.wv false (l ++ [x]) = S.wv false l + (if l.length % 2 = 0 then 256 * x else x) := by
  rw [S.wv_append]
  by_cases h : l.length % 2 = 0
  · have : S.par false l.length = false := by simp [S.par, h]
    rw [this, if_pos h]
    simp [S.wv]
  · have : S.par false l.length = true := by simp [S.par, show l.length % 2 = 1 by omega]
    rw [this, if_neg h]
    simp [S.wv]

set_option maxHeartbeats 800000 in
theorem rsum_any (a : Option Addr) (n cap : Nat) (ps : List Part) (w : World) (hn : ps.length = n) (hps : Parts w a ps) (htot : (allB ps).length ≤ 1099511627776) (hn2 : n ≤ 9223372036854775807) :
    Calls Tryd.prog 79 #[.slice a n cap] w fun e w' => e = .returned (.int .i64 ((S.fold (S.wv false (allB ps)) : Nat) : Int)) ∧ w = w' := by
  subst hn
  obtain ⟨hcells, hok⟩ := hps
  have HT : Hid ((allB ps).length ≤ 1099511627776) := htot
  have h256 : ∀ x ∈ allB ps, x < 256 := allB_lt ps (fun p hp => (hok p hp).2.1)
  have H256 : Hid (∀ x ∈ allB ps, x < 256) := h256
  clear htot h256
  go_enter Tryd.func79, Tryd.ntmps79
  go_wp2
  go_loop [3, 4, 5] (fun at' t ix => ∃ k A T : Nat, k ≤ ps.length ∧ ix = .int .i64 k ∧ at' = .int .i64 A ∧ t = .int .i64 T ∧ A ≤ 1099511627776 ∧ T ≤ 71776119061217280 ∧ Hid (A = (allB (ps.take k)).length) ∧ Hid (T = S.wv false (allB (ps.take k)))) (fun _ _ ix => ps.length - (intOf ix).toNat)
  case atStart => exact ⟨0, 0, 0, Nat.zero_le _, rfl, rfl, rfl, by omega, by omega, by show _ = _; simp [allB], by show _ = _; simp [allB, S.wv]⟩
  case round =>
    obtain ⟨k, A, T, hk, rfl, rfl, rfl, hA, hT, HA, HTV⟩ := hrel
    by_cases hlt : k < ps.length
    · rcases hcells with hnil | ⟨b, off, rfl, hc⟩
      · rw [hnil] at hlt; simp at hlt
      have hcell := hc k hlt
      have hp := hok _ (List.getElem_mem hlt)
      have e1 := allB_take_succ ps k hlt
      have e2 := allB_take_le ps (k + 1)
      have hlt' : ∀ x ∈ allB (ps.take (k + 1)), x < 256 := fun x hx => H256.out x (by
          simp only [allB, List.mem_flatMap] at hx ⊢
          obtain ⟨p, hp, hx⟩ := hx
          exact ⟨p, List.mem_of_mem_take hp, hx⟩)
      obtain ⟨p, hpe⟩ : ∃ p, p = ps[k] := ⟨_, rfl⟩
      rw [← hpe] at hcell hp e1
      obtain ⟨pa, pc, l⟩ := p
      obtain ⟨hseg, hl256, hlc, hpc⟩ := hp
      simp only [Part.val] at hcell hseg hl256 hlc hpc e1
      obtain ⟨pre, hpre⟩ : ∃ pre, pre = allB (ps.take k) := ⟨_, rfl⟩
      rw [← hpre] at HA HTV e1
      rw [e1] at hlt' e2
      have HE1 : Hid (allB (ps.take (k + 1)) = pre ++ l) := e1
      have HLT : Hid (∀ x ∈ pre ++ l, x < 256) := hlt'
      have hpl : A + l.length ≤ 1099511627776 := by have := HT.out; have := HA.out; simp at e2; omega
      clear e1 e2 hpe hc hlt' hpre
      obtain ⟨N, hN⟩ : ∃ N, N = l.length := ⟨_, rfl⟩
      have HN : Hid (l.length = N) := hN.symm
      rw [← hN] at hcell hlc hpl
      clear hN
      go_wp2
      go_loop [3, 4, 6] (fun at' t ix => ∃ j T' : Nat, j ≤ N ∧ ix = .int .i64 j ∧ at' = .int .i64 ((A + j : Nat) : Int) ∧ t = .int .i64 T' ∧ T' ≤ 71776119061217280 ∧ Hid (T' = S.wv false (pre ++ l.take j))) (fun _ _ ix => N - (intOf ix).toNat)
      case atStart => exact ⟨0, T, Nat.zero_le _, rfl, rfl, rfl, hT, by show _ = _; rw [List.take_zero, List.append_nil]; exact HTV.out⟩
      case round =>
        obtain ⟨j, T', hj, rfl, rfl, rfl, hT', HT'⟩ := hrel
        by_cases hjl : j < N
        · obtain ⟨pb, poff, rfl, hpcell⟩ := seg_at hseg j (by rw [HN.out]; exact hjl)
          have c0 := hpcell j (by rw [HN.out]; exact hjl)
          have htk : l.take (j + 1) = l.take j ++ [l.getD j 0] := by
            rw [List.take_succ_eq_append_getElem (by rw [HN.out]; exact hjl)]
            simp [List.getD, show j < l.length by rw [HN.out]; exact hjl]
          have hstep := wv_snoc (pre ++ l.take j) (l.getD j 0)
          rw [List.append_assoc, ← htk, ← HT'.out] at hstep
          have hlen : (pre ++ l.take j).length = A + j := by rw [List.length_append, List.length_take, HN.out, ← HA.out]; omega
          rw [hlen] at hstep
          have hb := S.wv_le false (pre ++ l.take (j + 1)) (fun x hx => HLT.out x (by
            rcases List.mem_append.1 hx with h | h
            · exact List.mem_append_left _ h
            · exact List.mem_append_right _ (List.mem_of_mem_take h)))
          have hlen2 : (pre ++ l.take (j + 1)).length = A + j + 1 := by rw [List.length_append, List.length_take, HN.out, ← HA.out]; omega
          rw [hlen2] at hb
          have hx256 : l.getD j 0 < 256 := by
            simp only [List.getD, List.getElem?_eq_getElem (show j < l.length by rw [HN.out]; exact hjl), Option.getD_some]; exact hl256 _ (List.getElem_mem _)
          obtain ⟨x, hx⟩ : ∃ x, x = l.getD j 0 := ⟨_, rfl⟩
          rw [← hx] at c0 hstep hx256
          have HB : Hid _ := hb
          clear hx htk hlen hlen2 hpcell hb
          by_cases hpar : (A + j) % 2 = 0
          · rw [if_pos hpar] at hstep
            have HST : Hid (S.wv false (pre ++ l.take (j + 1)) = T' + 256 * x) := hstep
            have hT2 : T' + 256 * x ≤ 71776119061217280 := by have := HB.out; have := HST.out; omega
            have hp1 : (((A + j : Nat) : Int) % 2 == 0) = true := by simp; omega
            have hp2 : ((((A : Int) + (j : Int))) % 2 == 0) = true := by simp; omega
            clear hstep
            go_wp2
            go_round
            case rel => exact ⟨j + 1, T' + 256 * x, by omega, by go_num, by go_num, by go_num, hT2, HST.out.symm⟩
            case measure => simp [intOf]; omega
          · rw [if_neg hpar] at hstep
            have HST : Hid (S.wv false (pre ++ l.take (j + 1)) = T' + x) := hstep
            have hT2 : T' + x ≤ 71776119061217280 := by have := HB.out; have := HST.out; omega
            have hp1 : (((A + j : Nat) : Int) % 2 == 0) = false := by simp; omega
            have hp2 : ((((A : Int) + (j : Int))) % 2 == 0) = false := by simp; omega
            clear hstep
            go_wp2
            go_round
            case rel => exact ⟨j + 1, T' + x, by omega, by go_num, by go_num, by go_num, hT2, HST.out.symm⟩
            case measure => simp [intOf]; omega
        · obtain rfl : j = N := by omega
          have HT2 : Hid (T' = S.wv false (allB (ps.take (k + 1)))) := by have h := HT'.out; rw [List.take_of_length_le (by rw [HN.out]; exact Nat.le_refl _), ← HE1.out] at h; exact h
          go_wp2
          go_round
          case rel => exact ⟨k + 1, A + j, T', by omega, by go_num, rfl, rfl, hpl, hT', by show _ = _; rw [HE1.out, List.length_append, ← HA.out, HN.out], HT2⟩
          case measure => simp [intOf]; omega
    · obtain rfl : k = ps.length := by omega
      have HTV2 : Hid (T = S.wv false (allB ps)) := by have := HTV.out; rw [List.take_length] at this; exact this
      go_wp2_with fail
      refine (rfolded_any T _ (by omega)).mono ?_
      rintro e w' ⟨rfl, rfl⟩
      go_wp2
      go_ret
      exact ⟨ret1 (by rw [HTV2.out]), rfl⟩

theorem rgood_any (a : Option Addr) (n cap : Nat) (ps : List Part) (w : World) (hn : ps.length = n) (hps : Parts w a ps) (htot : (allB ps).length ≤ 1099511627776) (hn2 : n ≤ 9223372036854775807) :
    Calls Tryd.prog 62 #[.slice a n cap] w fun e w' => e = .returned (.bool (decide (S.fold (S.wv false (allB ps)) = 65535))) ∧ w = w' := by
  go_enter Tryd.func62, Tryd.ntmps62
  go_wp2_with fail
  refine (rsum_any a n cap ps w hn hps htot hn2).mono ?_
  rintro e w1 ⟨rfl, rfl⟩
  have h1 := S.fold_le (S.wv false (allB ps))
  obtain ⟨f, hf⟩ : ∃ f, f = S.fold (S.wv false (allB ps)) := ⟨_, rfl⟩
  rw [← hf] at h1 ⊢
  have HF : Hid (f = S.fold (S.wv false (allB ps))) := hf
  clear hf
  go_wp2
  go_ret
  refine ⟨congrArg (fun b => Ending.returned (.bool b)) ?_, rfl⟩
  rw [← HF.out]
  by_cases h : f = 65535
  · subst h; rfl
  · have h2 : ¬ (f : Int) = 65535 := by omega
    rw [decide_eq_false h]
    simpa using h2


section
variable (w : World) (B : Nat) (a1 a2 : Option Addr) (n1 n2 c1 c2 : Nat) (l1 l2 : List Nat)
theorem rgood_one (hB : B = w.heap.size) (hl1 : l1.length = n1) (h1 : Part.ok w ⟨a1, c1, l1⟩) (hs : n1 ≤ 1099511627776) :
    Calls Tryd.prog 62 #[.slice (some ⟨B, 0, none⟩) 1 1] (w.alloc (.cells #[.slice a1 n1 c1] 25)) fun e w' => e = .returned (.bool (decide (S.fold (S.wv false l1) = 65535))) ∧ Below w.heap.size w w' := by
  subst hB hl1
  have := rgood_any (some ⟨w.heap.size, 0, none⟩) 1 1 [⟨a1, c1, l1⟩] _ rfl (parts_new w [⟨a1, c1, l1⟩] 25 (by intro p hp; simp at hp; subst hp; exact h1)) (by simp [allB]; omega) (by omega)
  simp only [allB, List.flatMap_cons, List.flatMap_nil, List.append_nil] at this
  exact this.mono (fun e w' h => ⟨h.1, by rw [← h.2]; exact (Below.refl _ _).alloc (Nat.le_refl _) _⟩)
end
end Go.Proofs.YtfoeepbndfnifaaDoor
namespace Go.Proofs.YtfoeepbndfnifaaDoor
open Go.RowKit
end Go.Proofs.YtfoeepbndfnifaaDoor
namespace Go.Proofs.YtfoeepbndfnifaaDoor
open Go.RowKit
open L4 (U9 T9)

theorem rgood_two (w : World) (B : Nat) (a1 a2 : Option Addr) (n1 n2 c1 c2 : Nat) (l1 l2 : List Nat) (hB : B = w.heap.size) (hl1 : l1.length = n1) (hl2 : l2.length = n2) (h1 : Part.ok w ⟨a1, c1, l1⟩) (h2 : Part.ok w ⟨a2, c2, l2⟩) (hs : n1 + n2 ≤ 1099511627776) :
    Calls Tryd.prog 62 #[.slice (some ⟨B, 0, none⟩) 2 2] (w.alloc (.cells #[.slice a1 n1 c1, .slice a2 n2 c2] 25)) fun e w' => e = .returned (.bool (decide (S.fold (S.wv false (l1 ++ l2)) = 65535))) ∧ Below w.heap.size w w' := by
  subst hB hl1 hl2
  have := rgood_any (some ⟨w.heap.size, 0, none⟩) 2 2 [⟨a1, c1, l1⟩, ⟨a2, c2, l2⟩] _ rfl (parts_new w [⟨a1, c1, l1⟩, ⟨a2, c2, l2⟩] 25 (by intro p hp; simp at hp; rcases hp with rfl | rfl; exact h1; exact h2)) (by simp [allB]; omega) (by omega)
  simp only [allB, List.flatMap_cons, List.flatMap_nil, List.append_nil] at this
  exact this.mono (fun e w' h => ⟨h.1, by rw [← h.2]; exact (Below.refl _ _).alloc (Nat.le_refl _) _⟩)
set_option maxHeartbeats 1600000 in
set_option maxRecDepth 100000 in
theorem rfit_any (V U : Int) (x y : Nat → Nat) (w : World) :
    Calls Tryd.prog 34 #[.agg (ipCells V x), .agg (ipCells U y)] w fun e w' => e = .returned (.bool (psOk V U x y)) ∧ Below w.heap.size w w' := by
  obtain ⟨A, hA⟩ : ∃ A, A = ipCells V x := ⟨_, rfl⟩
  obtain ⟨C, hC⟩ : ∃ C, C = ipCells U y := ⟨_, rfl⟩
  have hx1 := boxed_new w V x 24
  have hy1 := boxed_new (w.alloc (.cells (ipCells V x) 24)) U y 24
  rw [World.size_alloc] at hy1
  have hx2 := hx1.old ((Below.refl _ _).alloc (Nat.le_refl _) (.cells (ipCells U y) 24))
  clear hx1
  rw [← hA] at hx2 hy1 ⊢
  rw [← hC] at hx2 hy1 ⊢
  have bel : Below w.heap.size w ((w.alloc (.cells A 24)).alloc (.cells C 24)) := ((Below.refl _ _).alloc (Nat.le_refl _) _).alloc (by simp) _
  obtain ⟨W, hW⟩ : ∃ W, W = (w.alloc (.cells A 24)).alloc (.cells C 24) := ⟨_, rfl⟩
  rw [← hW] at hx2 hy1 bel
  obtain ⟨B, hB⟩ : ∃ B, B = w.heap.size := ⟨_, rfl⟩
  have HB : Hid (w.heap.size = B) := hB.symm
  rw [← hB] at hx2 hy1
  have HW : Hid ((w.alloc (.cells A 24)).alloc (.cells C 24) = W) := hW.symm
  have HXB : Hid (Boxed W B V x) := hx2
  have HYB : Hid (Boxed W (B + 1) U y) := hy1
  clear hW hx2 hy1 hA hC hB
  have QP : Hid _ := rpseudo_any V U x y 0 0 W
  obtain ⟨E, hE⟩ : ∃ E, E = psE V U x y 0 0 := ⟨_, rfl⟩
  rw [← hE] at QP
  have HE : Hid (E = psE V U x y 0 0) := hE
  clear hE
  go_enter Tryd.func34, Tryd.ntmps34
  go_upto_region 1 with fail
  rw [HB.out, HW.out]
  go_wp2_with (first | (refine wpList_load_ip (.tmp 2) rfl B V x rfl HXB.out rfl ?_) | (refine wpList_load_ip (.tmp 3) rfl (B + 1) U y rfl HYB.out rfl ?_))
  refine Calls.mono QP.out ?_
  rintro e w1 ⟨v, rfl, ho, hb1⟩
  have bel1 := bthen bel hb1
  clear QP ho hb1
  have hb : (E == 0) = psOk V U x y := by
    rw [HE.out]
    cases hp : psOk V U x y with
    | true => rw [psE_ok hp (by simp [psIn])]; rfl
    | false => rw [psE_no hp]; rfl
  go_wp2
  go_ret
  exact ⟨by first | rfl | (rw [hb]), bel1⟩
set_option maxHeartbeats 1600000 in
set_option maxRecDepth 100000 in
theorem rgood9_any (V U : Int) (x y : Nat → Nat) (p : Nat) (a : Option Addr) (n c : Nat) (bs : List Nat) (w : World) (hok : psOk V U x y = true) (hp : p ≤ 255) (hn : n ≤ 65535) (hx : ∀ i, i < 16 → x i < 256) (hy : ∀ i, i < 16 → y i < 256) (hd : DOk w bs a n c) :
    Calls Tryd.prog 36 #[.agg (ipCells V x), .agg (ipCells U y), .int .i64 (p : Int), .slice a n c] w fun e w' => e = .returned (.bool (decide (S.fold (S.wv false (psL V U x y (p : Nat) (n : Nat) ++ bs)) = 65535))) ∧ Below w.heap.size w w' := by
  obtain ⟨A, hA⟩ : ∃ A, A = ipCells V x := ⟨_, rfl⟩
  obtain ⟨C, hC⟩ : ∃ C, C = ipCells U y := ⟨_, rfl⟩
  have hx1 := boxed_new w V x 24
  have hy1 := boxed_new (w.alloc (.cells (ipCells V x) 24)) U y 24
  rw [World.size_alloc] at hy1
  have hx2 := hx1.old ((Below.refl _ _).alloc (Nat.le_refl _) (.cells (ipCells U y) 24))
  clear hx1
  rw [← hA] at hx2 hy1 ⊢
  rw [← hC] at hx2 hy1 ⊢
  have bel : Below w.heap.size w ((w.alloc (.cells A 24)).alloc (.cells C 24)) := ((Below.refl _ _).alloc (Nat.le_refl _) _).alloc (by simp) _
  obtain ⟨W, hW⟩ : ∃ W, W = (w.alloc (.cells A 24)).alloc (.cells C 24) := ⟨_, rfl⟩
  rw [← hW] at hx2 hy1 bel
  obtain ⟨B, hB⟩ : ∃ B, B = w.heap.size := ⟨_, rfl⟩
  have HB : Hid (w.heap.size = B) := hB.symm
  rw [← hB] at hx2 hy1
  have HW : Hid ((w.alloc (.cells A 24)).alloc (.cells C 24) = W) := hW.symm
  have HX : Hid (∀ i, i < 16 → x i < 256) := hx
  have HY : Hid (∀ i, i < 16 → y i < 256) := hy
  have HXB : Hid (Boxed W B V x) := hx2
  have HYB : Hid (Boxed W (B + 1) U y) := hy1
  clear hW hx2 hy1 hx hy hA hC hB
  have HD : Hid (DOk w bs a n c) := hd
  have QP : Hid _ := rpseudo_any V U x y (p : Int) (n : Int) W
  obtain ⟨pb, hpb⟩ : ∃ pb, pb = psL V U x y (p : Nat) (n : Nat) := ⟨_, rfl⟩
  have HPE : Hid (psE V U x y (p : Int) (n : Int) = 0) := psE_ok hok (by simp [psIn]; omega)
  rw [← hpb, HPE.out] at QP
  rw [← hpb]
  have HP256 : Hid (∀ z ∈ pb, z < 256) := by rw [hpb]; exact psL_256 V U x y (p : Nat) (n : Nat) HX.out HY.out
  have HP40 : Hid (pb.length ≤ 40) := by rw [hpb]; exact psL_len _ _ _ _ _ _
  clear hpb hok hd
  go_enter Tryd.func36, Tryd.ntmps36
  go_upto_region 1 with fail
  rw [HB.out, HW.out]
  go_wp2_with (first | (refine wpList_load_ip (.tmp 4) rfl B V x rfl HXB.out rfl ?_) | (refine wpList_load_ip (.tmp 5) rfl (B + 1) U y rfl HYB.out rfl ?_))
  refine Calls.mono QP.out ?_
  rintro e w1 ⟨v, rfl, ho, hb1⟩
  obtain ⟨pa, pc, rfl⟩ := owns_shape ho
  have bel1 := bthen bel hb1
  have QG : Hid _ := rgood_two w1 w1.heap.size pa a pb.length n pc c pb bs rfl rfl HD.out.dl (OwnB.part ho HP256.out) (HD.out.old bel1).part (by have := HP40.out; omega)
  obtain ⟨G, hG⟩ : ∃ G, G = decide (S.fold (S.wv false (pb ++ bs)) = 65535) := ⟨_, rfl⟩
  rw [← hG] at QG
  have HG : Hid (decide (S.fold (S.wv false (pb ++ bs)) = 65535) = G) := hG.symm
  obtain ⟨pl, hpl⟩ : ∃ pl, pl = pb.length := ⟨_, rfl⟩
  rw [← hpl] at QG ⊢
  clear QP ho hb1 hG hpl
  go_wp2_with fail
  refine Calls.mono QG.out ?_
  rintro e w2 ⟨rfl, hb2⟩
  have bel2 := bthen bel1 hb2
  clear QG hb2
  go_wp2
  go_ret
  exact ⟨by rw [HG.out]; rfl, bel2⟩
end Go.Proofs.YtfoeepbndfnifaaDoor
namespace Go.Proofs.YtfoeepbndfnifaaDoor
open Go.RowKit
open L4 (U9 T9)
def rlen (k n : Int) : Bool := if k = 2 then decide (n = 4) else if k = 3 then decide (n = 3) else if k = 4 then decide (n = 2) else if k = 5 then decide (n = 10 ∨ n = 18 ∨ n = 26 ∨ n = 34) else if k = 8 then decide (n = 10) else decide (2 ≤ n)
theorem rlen_eq (k n : Int) : rlen k n = (L4.lenOk k n && decide (2 ≤ n)) := by
  unfold rlen L4.lenOk L4.lenTab
  rw [Bool.eq_iff_iff]
  by_cases h2 : k = 2
  · subst h2; simp; omega
  by_cases h3 : k = 3
  · subst h3; simp; omega
  by_cases h4 : k = 4
  · subst h4; simp; omega
  by_cases h5 : k = 5
  · subst h5; simp; omega
  by_cases h8 : k = 8
  · subst h8; simp; omega
  have e2 : ¬ 2 = k := fun e => h2 e.symm
  have e3 : ¬ 3 = k := fun e => h3 e.symm
  have e4 : ¬ 4 = k := fun e => h4 e.symm
  have e5 : ¬ 5 = k := fun e => h5 e.symm
  have e8 : ¬ 8 = k := fun e => h8 e.symm
  simp [h2, h3, h4, h5, h8, e2, e3, e4, e5, e8]
set_option maxHeartbeats 1600000 in
theorem rlen_any (k n : Int) (w : World) : Calls Tryd.prog 40 #[.int .i64 k, .int .i64 n] w fun e w' => e = .returned (.bool (rlen k n)) ∧ w = w' := by
  by_cases h2 : k = 2
  · subst h2
    go_enter Tryd.func40, Tryd.ntmps40
    go_wp2
    go_ret
    refine ⟨congrArg (fun b => Ending.returned (.bool b)) ?_, rfl⟩
    simp [rlen]
    rfl
  have b2 : (k == 2) = false := by rw [beq_eq_false_iff_ne]; exact h2
  by_cases h3 : k = 3
  · subst h3
    go_enter Tryd.func40, Tryd.ntmps40
    go_wp2
    go_ret
    refine ⟨congrArg (fun b => Ending.returned (.bool b)) ?_, rfl⟩
    simp [rlen]
    rfl
  have b3 : (k == 3) = false := by rw [beq_eq_false_iff_ne]; exact h3
  by_cases h4 : k = 4
  · subst h4
    go_enter Tryd.func40, Tryd.ntmps40
    go_wp2
    go_ret
    refine ⟨congrArg (fun b => Ending.returned (.bool b)) ?_, rfl⟩
    simp [rlen]
    rfl
  have b4 : (k == 4) = false := by rw [beq_eq_false_iff_ne]; exact h4
  by_cases h5 : k = 5
  · subst h5
    by_cases q : n = 10
    · subst q
      go_enter Tryd.func40, Tryd.ntmps40
      go_wp2
      go_ret
      exact ⟨rfl, rfl⟩
    have c1 : (n == 10) = false := by rw [beq_eq_false_iff_ne]; exact q
    by_cases q2 : n = 18
    · subst q2
      go_enter Tryd.func40, Tryd.ntmps40
      go_wp2
      go_ret
      exact ⟨rfl, rfl⟩
    have c2 : (n == 18) = false := by rw [beq_eq_false_iff_ne]; exact q2
    by_cases q3 : n = 26
    · subst q3
      go_enter Tryd.func40, Tryd.ntmps40
      go_wp2
      go_ret
      exact ⟨rfl, rfl⟩
    have c3 : (n == 26) = false := by rw [beq_eq_false_iff_ne]; exact q3
    have HR : Hid (rlen 5 n = (n == 34)) := by
      show _ = _
      rw [Bool.eq_iff_iff]
      simp [rlen]
      omega
    clear q q2 q3
    go_enter Tryd.func40, Tryd.ntmps40
    go_wp2
    go_ret
    exact ⟨by rw [HR.out]; rfl, rfl⟩
  have b5 : (k == 5) = false := by rw [beq_eq_false_iff_ne]; exact h5
  by_cases h8 : k = 8
  · subst h8
    go_enter Tryd.func40, Tryd.ntmps40
    go_wp2
    go_ret
    refine ⟨congrArg (fun b => Ending.returned (.bool b)) ?_, rfl⟩
    simp [rlen]
    rfl
  have b8 : (k == 8) = false := by rw [beq_eq_false_iff_ne]; exact h8
  have HR : Hid (rlen k n = decide (2 ≤ n)) := by show _ = _; unfold rlen; rw [if_neg h2, if_neg h3, if_neg h4, if_neg h5, if_neg h8]
  clear h2 h3 h4 h5 h8
  go_enter Tryd.func40, Tryd.ntmps40
  go_wp2
  go_ret
  refine ⟨?_, rfl⟩
  rw [HR.out]
  rfl
theorem byN_pre (cnt m k : Nat) (h : k < cnt) : (byN cnt m).take (k + 1) = (byN cnt m).take k ++ [m / (256 ^ (cnt - 1) / 256 ^ k) % 256] := by
  have e : 256 ^ (cnt - 1) / 256 ^ k = 256 ^ (cnt - 1 - k) := by rw [Nat.pow_div (by omega) (by omega)]
  have hl : k < (byN cnt m).length := by simp [byN]; exact h
  rw [e, List.take_add_one, List.getElem?_eq_getElem hl]
  simp [byN]
end Go.Proofs.YtfoeepbndfnifaaDoor
namespace Go.Proofs.YtfoeepbndfnifaaDoor
open Go.RowKit
open L4 (U9 T9)
end Go.Proofs.YtfoeepbndfnifaaDoor
namespace Go.Proofs.YtfoeepbndfnifaaDoor
open Go.RowKit
open L4 (U9 T9)
end Go.Proofs.YtfoeepbndfnifaaDoor
namespace Go.Proofs.YtfoeepbndfnifaaDoor
open Go.RowKit

theorem flat_small (l : List (Int × List Nat)) (h : l.all I4.okO = true) : (I4.flatI l).length ≤ 40 * l.length := by
  induction l with
  | nil => simp [I4.flatI, I4.flatO]
  | cons o l ih =>
    simp only [List.all_cons, Bool.and_eq_true] at h
    have h1 := ih h.2
    have h2 : o.2.length ≤ 38 := by have := h.1; simp only [I4.okO, Bool.and_eq_true, decide_eq_true_eq] at this; exact this.2
    unfold I4.flatI at h1 ⊢
    rw [List.map_cons, I4.flatO_cons, List.length_cons]
    have : (I4.natO o).2.length = o.2.length := rfl
    omega
/-- the state of the first loop -/
structure RpS (w : World) (os : List OpV) (v : Value) (k : Nat) (wr : World) : Prop where
  own : wr.ownsRow w.heap.size 5 1 v (I4.flatI ((vals os).take k)).length ((toI (I4.flatI ((vals os).take k))).map (Value.int .u8))
  ok : ((vals os).take k).all I4.okO = true
  bel : Below w.heap.size w wr
theorem RpS.small {w wr : World} {os : List OpV} {v : Value} {k : Nat} (h : RpS w os v k wr) : (I4.flatI ((vals os).take k)).length ≤ 40 * k := by
  have := flat_small _ h.ok
  have h2 : ((vals os).take k).length ≤ k := by rw [List.length_take]; omega
  omega
/-- the state of the second loop -/
structure RqS (w : World) (F : List Nat) (v : Value) (z : Nat) (wr : World) : Prop where
  own : wr.ownsRow w.heap.size 5 1 v (F.length + z) ((toI (F ++ List.replicate z 0)).map (Value.int .u8))
  bel : Below w.heap.size w wr
  zl : z ≤ (4 - F.length % 4) % 4
def lenV : Value → Nat
  | .slice _ n _ => n
  | _ => 0
/-- what it answers -/
def RPut (w : World) (l : List (Int × List Nat)) (e : Ending) (w' : World) : Prop :=
  (I4.putOk l = true ∧ ∃ v, e = .returned (.tuple #[v, .int .i64 0]) ∧ w'.ownsRow w.heap.size 5 1 v (I4.putO l).length ((toI (I4.putO l)).map (Value.int .u8))) ∨ (I4.putOk l = false ∧ e = .returned (.tuple #[.slice none 0 0, .int .i64 65]))
end Go.Proofs.YtfoeepbndfnifaaDoor
namespace Go.Proofs.YtfoeepbndfnifaaDoor
open Go.RowKit
open L4 (U9 T9)
end Go.Proofs.YtfoeepbndfnifaaDoor
namespace Go.Proofs.YtfoeepbndfnifaaDoor
open Go.RowKit
open L4 (U9 T9)
theorem by1 (s : Nat) (h : s ≤ 255) : byN 1 s = [s] := by
  simp [byN]
  omega
theorem by4 (s : Nat) (h : s ≤ 4294967295) : byN 4 s = [s / 16777216, s / 65536 % 256, s / 256 % 256, s % 256] := by
  simp [byN, List.range_succ]
  omega
end Go.Proofs.YtfoeepbndfnifaaDoor
