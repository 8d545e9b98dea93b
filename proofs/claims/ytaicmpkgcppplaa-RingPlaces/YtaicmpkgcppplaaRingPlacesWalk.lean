/-
  The walk of RingPlaces: it answers true, whatever it is handed, and writes nothing that was there.
-/
import Derived.Test.YtaicmpkgcppplaaRingAt
namespace Go.Proofs.Ytaicmpkgcppplaa.ringPlaces
open Go.RowKit

set_option maxRecDepth 100000 in
set_option maxHeartbeats 6400000 in
theorem walk (rx tx pool size : Int) (a : Option Addr) (len cap : Nat) (ops : List OpV) (w : World) (_h0 : (Lit.int .i64 rx).wf = true) (_h1 : (Lit.int .i64 tx).wf = true) (_h2 : (Lit.int .i64 pool).wf = true) (_h3 : (Lit.int .i64 size).wf = true) (hl : ops.length = len) (ho : Ops w a ops) (hn : len ≤ 9223372036854775807) :
    Calls Try.prog 6 #[.int .i64 rx, .int .i64 tx, .int .i64 pool, .int .i64 size, .slice a len cap] w fun e w' => e = .returned (.bool true) ∧ Below w.heap.size w w' := by
  clear _h0 _h1 _h2 _h3
  have HOP : Hid _ := ho
  clear ho
  go_enter Try.func6, Try.ntmps6
  go_wp2_with fail
  refine (port_any w rx tx pool size).mono ?_
  rintro e w1 ⟨r, t, p, sz, P, gb, gf, gr, gt, hs, rfl, hp, hb, hq⟩
  have A0 : At w w1 P gb gf gr gt p sz (newK r t p sz p) := ⟨hp, newK_inv r t p sz, rfl, rfl, hb, hq⟩
  have hp5 := hs.h5
  have hp6 := hs.h6
  have hr1 := hs.h1
  have hr2 := hs.h2
  have ht2 := hs.h4
  have Q1 : Hid _ := Stat_any w1 P gb gf gr gt _ A0.port (fun i hi => (A0.inv.pr i hi).2)
  rw [show (newK r t p sz p).pool = p from rfl, newK_stat r t p sz] at Q1
  clear hp hb hq hs
  go_wp2_with fail
  refine Calls.mono Q1.out ?_
  rintro e w2 ⟨rfl, hb2⟩
  have A1 := A0.below hb2
  have Q2 : Hid _ := refill_t A1.port A1.inv 1
  clear Q1 hb2 A0
  go_wp2_with fail
  refine Calls.mono Q2.out ?_
  rintro e w3 ⟨k1, hk1, rfl, hp3⟩
  have hk1' : k1 = 1 := by simp [newK] at hk1; omega
  subst hk1'
  have A2 := A1.next hp3
  have hrn : ((newK r t p sz p).refilled 1).rxn = r := rfl
  have htn : ((newK r t p sz p).refilled 1).txn = t := rfl
  obtain ⟨s2, hs2⟩ : ∃ s2, s2 = (newK r t p sz p).refilled 1 := ⟨_, rfl⟩
  rw [← hs2] at A2 hrn htn
  clear Q2 hp3 A1 hk1 hs2
  go_wp2
  go_loopw [16] (fun ix wr => ∃ (k : Nat) (s : PS), k ≤ len ∧ ix = .int .i64 k ∧ At w wr P gb gf gr gt p sz s ∧ s.rxn = r ∧ s.txn = t) (fun ix _ => len - (intOf ix).toNat)
  case atStart => exact ⟨0, s2, Nat.zero_le _, rfl, A2, hrn, htn⟩
  case round =>
    obtain ⟨k, s, hk, rfl, hA, hsr, hst⟩ := hrel
    clear A2 hrn htn
    by_cases hlt : k < len
    case neg =>
      obtain rfl : k = len := by omega
      have hbel := hA.bel
      clear hA
      go_wp2
      go_ret
      exact ⟨rfl, hbel⟩
    obtain ⟨ob, off, kd, two, i1, n1, oa, oc, fr, rfl, hobl, hov, hok, e0, e1, e2, e3, e4⟩ := ops_at HOP.out hA.bel k (by omega)
    have HV : Hid _ := hov
    have hbA : Below wr.heap.size wr (wr.alloc (.cells (opCells kd two i1 n1 oa fr.length oc) 33)) := (Below.refl _ _).alloc (Nat.le_refl _) _
    have A3 := hA.below hbA
    have co : ∀ j, (wr.alloc (.cells (opCells kd two i1 n1 oa fr.length oc) 33)).cell? ⟨wr.heap.size, j, none⟩ = (opCells kd two i1 n1 oa fr.length oc)[j]? := fun j => World.cell?_alloc_at _ _ _ _ rfl
    have Q1 : Hid _ := Places_any _ P gb gf gr gt s A3.port
    rw [A3.pool] at Q1
    clear hov hok
    go_wp2_with fail
    clear e0 e1 e2 e3 e4
    refine Calls.mono Q1.out ?_
    rintro e w5 ⟨g1, rfl, hrow1, hb5⟩
    have A4 := A3.below hb5
    have hOl : wr.heap.size < (wr.alloc (.cells (opCells kd two i1 n1 oa fr.length oc) 33)).heap.size := by simp
    have d0 : w5.cell? ⟨wr.heap.size, 0, none⟩ = some (.int .i64 kd) := (hb5.cell (p := ⟨wr.heap.size, 0, none⟩) hOl).trans (co 0)
    have d1 : w5.cell? ⟨wr.heap.size, 1, none⟩ = some (.bool two) := (hb5.cell (p := ⟨wr.heap.size, 1, none⟩) hOl).trans (co 1)
    have d2 : w5.cell? ⟨wr.heap.size, 2, none⟩ = some (.int .i64 i1) := (hb5.cell (p := ⟨wr.heap.size, 2, none⟩) hOl).trans (co 2)
    have d3 : w5.cell? ⟨wr.heap.size, 3, none⟩ = some (.int .i64 n1) := (hb5.cell (p := ⟨wr.heap.size, 3, none⟩) hOl).trans (co 3)
    have d4 : w5.cell? ⟨wr.heap.size, 4, none⟩ = some (.slice oa fr.length oc) := (hb5.cell (p := ⟨wr.heap.size, 4, none⟩) hOl).trans (co 4)
    have hseg : Seg .u8 w5 oa (toI fr) := HV.out.seg.below (B := w.heap.size) HV.out.seg.lt A4.bel
    have Q2 : Hid _ := do_any w5 P gb gf gr gt s A4.port A4.inv kd two i1 n1 oa oc fr hseg HV.out.h256 (A4.apart HV.out.seg)
    have hOn : ¬ PB P gb gf gr gt s wr.heap.size := fun hq => by have := hA.old _ hq; omega
    have hgn : ¬ PB P gb gf gr gt s g1 := fun hq => by have h1 := A3.old _ hq; have h2 := (hrow1.lt g1 rfl).1; omega
    obtain ⟨O, hO⟩ : ∃ O, O = wr.heap.size := ⟨_, rfl⟩
    rw [← hO] at d0 d1 d2 d3 d4 hOn ⊢
    clear hseg Q1 hb5 co hbA hA A3 hO hOl
    go_wp2_with fail
    refine Calls.mono Q2.out ?_
    rintro e w6 ⟨s6, r6, rfl, hp6', htu⟩
    have A5 := A4.next hp6'
    have f0 := hp6'.ch.cell d0 hOn
    have hrow2 := hp6'.ch.owns hrow1 (fun g hg e => hgn (by simp [Value.ownBlock] at hg; rw [hg]; exact e))
    have hsr6 : s6.rxn = r := hp6'.rxn.trans hsr
    have hst6 : s6.txn = t := hp6'.txn.trans hst
    have Q3 : Hid _ := Places_any w6 P gb gf gr gt s6 A5.port
    rw [A5.pool] at Q3
    have HT : Hid _ := htu
    clear Q2 d0 d1 d2 d3 d4 A4 hrow1 hOn hgn hp6' htu hsr hst
    go_wp2_with fail
    refine Calls.mono Q3.out ?_
    rintro e w7 ⟨g2, rfl, hrow3, hb7⟩
    have A6 := A5.below hb7
    have f1 := (hb7.cell (p := ⟨O, 0, none⟩) (World.block_lt_of_cell? w6 _ f0)).trans f0
    have hrow4 := (Ch.ofBelow (S := fun _ => False) hb7).owns hrow2 (fun _ _ => id)
    have Q4 : Hid _ := Stat_any w7 P gb gf gr gt s6 A6.port (fun i hi => (A6.inv.pr i hi).2)
    clear Q3 f0 hrow2 A5
    go_wp2_with fail
    refine Calls.mono Q4.out ?_
    rintro e w8 ⟨rfl, hb8⟩
    have A7 := A6.below hb8
    have f2 := (hb8.cell (p := ⟨O, 0, none⟩) (World.block_lt_of_cell? w7 _ f1)).trans f1
    have hrow5 := (Ch.ofBelow (S := fun _ => False) hb8).owns hrow4 (fun _ _ => id)
    have hrow6 := (Ch.ofBelow (S := fun _ => False) hb8).owns hrow3 (fun _ _ => id)
    have hrx : cnt s6.pl s6.pool 2 + cnt s6.pl s6.pool 3 ≤ r := by
      have h1 := A7.inv.rxs
      obtain ⟨_, _, l⟩ := A7.port.lr
      have h2 := l.ql
      omega
    have htx : cnt s6.pl s6.pool 5 ≤ t := by
      have h1 := A7.inv.txs
      obtain ⟨_, _, l⟩ := A7.port.lt
      have h2 := l.ql
      omega
    unfold statV
    obtain ⟨n1', h1⟩ : ∃ n, n = cnt s6.pl s6.pool 1 := ⟨_, rfl⟩
    obtain ⟨n2, h2⟩ : ∃ n, n = cnt s6.pl s6.pool 2 := ⟨_, rfl⟩
    obtain ⟨n3, h3⟩ : ∃ n, n = cnt s6.pl s6.pool 3 := ⟨_, rfl⟩
    obtain ⟨n4, h4⟩ : ∃ n, n = cnt s6.pl s6.pool 4 := ⟨_, rfl⟩
    obtain ⟨n5, h5⟩ : ∃ n, n = cnt s6.pl s6.pool 5 := ⟨_, rfl⟩
    rw [← h1, ← h2, ← h3, ← h4, ← h5]
    rw [← h2, ← h3] at hrx
    rw [← h5] at htx
    clear h1 h2 h3 h4 h5 Q4 f1 hrow3 hrow4 A6 hb7 hb8
    go_upto_region 12 with fail
    obtain ⟨D, hD⟩ : ∃ D, D = w8.heap.size := ⟨_, rfl⟩
    obtain ⟨W, hW⟩ : ∃ W, W = w8.alloc (.cells #[.int .i64 n1', .int .i64 n2, .int .i64 n3, .int .i64 n4, .int .i64 n5] 52) := ⟨_, rfl⟩
    have hbW : Below w8.heap.size w8 W := by rw [hW]; exact (Below.refl _ _).alloc (Nat.le_refl _) _
    have A8 := A7.below hbW
    have f3 := (hbW.cell (p := ⟨O, 0, none⟩) (World.block_lt_of_cell? w8 _ f2)).trans f2
    have hrow7 := (Ch.ofBelow (S := fun _ => False) hbW).owns hrow5 (fun _ _ => id)
    have hrow8 := (Ch.ofBelow (S := fun _ => False) hbW).owns hrow6 (fun _ _ => id)
    have cd : ∀ j, W.cell? ⟨D, j, none⟩ = (#[.int .i64 n1', .int .i64 n2, .int .i64 n3, .int .i64 n4, .int .i64 n5] : Array Value)[j]? := fun j => by rw [hW, World.cell?_alloc_at _ _ _ _ hD]
    have cd1 : W.cell? ⟨D, 1, none⟩ = some (.int .i64 n2) := by rw [cd]; rfl
    have cd2 : W.cell? ⟨D, 2, none⟩ = some (.int .i64 n3) := by rw [cd]; rfl
    have cd4 : W.cell? ⟨D, 4, none⟩ = some (.int .i64 n5) := by rw [cd]; rfl
    rw [← hW, ← hD]
    have Q5 : Hid _ := together_any W P gb gf gr gt s6 A8.port A8.inv
    rw [A8.pool] at Q5
    clear hW hD cd hbW A7 f2 hrow5 hrow6
    go_wp2_with fail
    refine Calls.mono Q5.out ?_
    rintro e w9 ⟨rfl, hb9⟩
    have A9 := A8.below hb9
    have f4 := (hb9.cell (p := ⟨O, 0, none⟩) (World.block_lt_of_cell? W _ f3)).trans f3
    have hrow9 := (Ch.ofBelow (S := fun _ => False) hb9).owns hrow7 (fun _ _ => id)
    have hrow10 := (Ch.ofBelow (S := fun _ => False) hb9).owns hrow8 (fun _ _ => id)
    have ce1 := (hb9.cell (p := ⟨D, 1, none⟩) (World.block_lt_of_cell? W _ cd1)).trans cd1
    have ce2 := (hb9.cell (p := ⟨D, 2, none⟩) (World.block_lt_of_cell? W _ cd2)).trans cd2
    have ce4 := (hb9.cell (p := ⟨D, 4, none⟩) (World.block_lt_of_cell? W _ cd4)).trans cd4
    have wq : IntKind.i64.wrap ((n2 : Int) + (n3 : Int)) = (n2 : Int) + (n3 : Int) := i64_small _ (by omega) (by omega)
    have t1 : decide ((r : Int) < (n2 : Int) + (n3 : Int)) = false := decide_eq_false (by omega)
    have t2 : decide ((t : Int) < (n5 : Int)) = false := decide_eq_false (by omega)
    have t3 : decide (t < n5) = false := decide_eq_false (by omega)
    have p1 := hrow9
    have p2 := hrow10
    clear Q5 A8 f3 hrow7 hrow8 cd1 cd2 cd4 hb9 hrow9 hrow10
    go_wp2
    go_loopw [22, 23] (fun tn ix wq => ∃ j : Nat, j ≤ p ∧ tn = .int .i64 (dcnt s.pl s6.pl j) ∧ ix = .int .i64 j ∧ At w wq P gb gf gr gt p sz s6 ∧ wq.cell? ⟨O, 0, none⟩ = some (.int .i64 kd) ∧ wq.ownsRow 0 3 1 (.slice (some ⟨g1, 0, none⟩) p p) p (nV ((List.range p).map s.pl)) ∧ wq.ownsRow 0 3 1 (.slice (some ⟨g2, 0, none⟩) p p) p (nV ((List.range p).map s6.pl))) (fun _ ix _ => p - (intOf ix).toNat)
    case atStart => exact ⟨0, Nat.zero_le _, rfl, rfl, A9, f4, owns_mono p1 (Nat.zero_le _), owns_mono p2 (Nat.zero_le _)⟩
    case round =>
      obtain ⟨j, hj, rfl, rfl, hAq, fq, q1, q2⟩ := hrel
      clear A9 f4 p1 p2 ce1 ce2 ce4 wq t1 t2 t3
      by_cases hjl : j < p
      · have u1 : wr.cell? ⟨g1, j, none⟩ = some (.int .i64 (s.pl j : Int)) := by
          rw [q1.cellAt j (by omega)]; simp [nV, hjl]
        have u2 : wr.cell? ⟨g2, j, none⟩ = some (.int .i64 (s6.pl j : Int)) := by
          rw [q2.cellAt j (by omega)]; simp [nV, hjl]
        have HF : Hid (At w wr.drew P gb gf gr gt p sz s6 ∧ wr.drew.cell? ⟨O, 0, none⟩ = some (.int .i64 kd) ∧ wr.drew.ownsRow 0 3 1 (.slice (some ⟨g1, 0, none⟩) p p) p (nV ((List.range p).map s.pl)) ∧ wr.drew.ownsRow 0 3 1 (.slice (some ⟨g2, 0, none⟩) p p) p (nV ((List.range p).map s6.pl))) := ⟨hAq.below (Below.refl _ _).drew, fq, owns_drew q1, owns_drew q2⟩
        have hd1 : dcnt s.pl s6.pl (j + 1) = dcnt s.pl s6.pl j + if s.pl j = s6.pl j then 0 else 1 := rfl
        have hdl := dcnt_le s.pl s6.pl j
        obtain ⟨T, hT⟩ : ∃ T, T = dcnt s.pl s6.pl j := ⟨_, rfl⟩
        obtain ⟨x, hx⟩ : ∃ x, x = s.pl j := ⟨_, rfl⟩
        obtain ⟨y, hy⟩ : ∃ y, y = s6.pl j := ⟨_, rfl⟩
        rw [← hT, ← hx, ← hy] at hd1
        rw [← hT] at hdl ⊢
        rw [← hx] at u1
        rw [← hy] at u2
        have HD : Hid (dcnt s.pl s6.pl (j + 1) = T + if x = y then 0 else 1) := hd1
        clear hT hx hy hd1 hAq fq q1 q2
        by_cases exy : x = y
        · subst exy
          have eb : ((x : Int) != (x : Int)) = false := by simp
          go_wp2
          try go_region
          all_goals
            go_wp2
            go_roundw
            case rel =>
              obtain ⟨z1, z2, z3, z4⟩ := HF.out
              exact ⟨j + 1, by omega, by rw [HD.out]; simp, by go_num, z1, z2, z3, z4⟩
            case measure => simp [intOf]; omega
        · have eb : ((x : Int) != (y : Int)) = true := by rw [bne_iff_ne]; omega
          have wT : IntKind.i64.wrap ((T : Int) + 1) = (T : Int) + 1 := i64_small _ (by omega) (by omega)
          have HD2 : Hid (dcnt s.pl s6.pl (j + 1) = T + 1) := by have := HD.out; rw [if_neg exy] at this; exact this
          clear exy HD
          go_wp2
          try go_region
          all_goals
            go_wp2
            go_roundw
            case rel =>
              obtain ⟨z1, z2, z3, z4⟩ := HF.out
              exact ⟨j + 1, by omega, by rw [HD2.out]; rfl, by go_num, z1, z2, z3, z4⟩
            case measure => simp [intOf]; omega
      · obtain rfl : j = p := by omega
        obtain ⟨T, hT⟩ : ∃ T, T = dcnt s.pl s6.pl j := ⟨_, rfl⟩
        have hT1 : r6 ≠ 0 → T = 0 := fun h => by rw [hT]; exact dcnt_zero _ _ _ (fun i _ => by rw [HT.out.1 h])
        have hT2 : kd ≠ 1 → T ≤ 1 := fun h => by
          obtain ⟨i0, hi0⟩ := HT.out.2 h
          rw [hT]; exact dcnt_one _ _ i0 (fun i hi => (hi0 i hi).symm) _
        rw [← hT]
        clear hT HT q1 q2
        have b1 : (r6 != 0 && decide ((0 : Int) < (T : Int))) = false := by
          by_cases h : r6 = 0
          · simp [h]
          · simp [hT1 h]
        have b2 : (kd != 1 && decide ((1 : Int) < (T : Int))) = false := by
          by_cases h : kd = 1
          · simp [h]
          · have := hT2 h
            simp; omega
        by_cases h1 : r6 = 0
        · subst h1
          by_cases h2 : kd = 1
          · subst h2
            clear hT1 hT2 b1 b2
            go_wp2
            go_roundw
            case rel => exact ⟨k + 1, s6, by omega, by go_num, hAq, hsr6, hst6⟩
            case measure => simp [intOf]; omega
          · have c1 : (kd != 1) = true := by simpa using h2
            have c2 : decide ((1 : Int) < (T : Int)) = false := decide_eq_false (by have := hT2 h2; omega)
            clear hT1 hT2 b1 b2 h2
            go_wp2
            go_roundw
            case rel => exact ⟨k + 1, s6, by omega, by go_num, hAq, hsr6, hst6⟩
            case measure => simp [intOf]; omega
        · have hT0 := hT1 h1
          subst hT0
          have c0 : (r6 != 0) = true := by simpa using h1
          clear hT1 hT2 b1 b2 h1
          by_cases h2 : kd = 1
          · subst h2
            go_wp2
            go_roundw
            case rel => exact ⟨k + 1, s6, by omega, by go_num, hAq, hsr6, hst6⟩
            case measure => simp [intOf]; omega
          · have c1 : (kd != 1) = true := by simpa using h2
            clear h2
            go_wp2
            go_roundw
            case rel => exact ⟨k + 1, s6, by omega, by go_num, hAq, hsr6, hst6⟩
            case measure => simp [intOf]; omega
end Go.Proofs.Ytaicmpkgcppplaa.ringPlaces
