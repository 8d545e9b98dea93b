/-
  The walk of RingLent: it answers true, whatever it is handed, and writes nothing that was there.
-/
import Derived.Test.YthknkfggpdhdbaaK3n
namespace Go.Proofs.Ythknkfggpdhdbaa.ringLent
open Go.RowKit
open Rl

set_option maxRecDepth 100000 in
set_option maxHeartbeats 6400000 in
theorem walk (rx tx pool size : Int) (a : Option Addr) (len cap : Nat) (ops : List OpV) (w : World) (_h0 : (Lit.int .i64 rx).wf = true) (_h1 : (Lit.int .i64 tx).wf = true) (_h2 : (Lit.int .i64 pool).wf = true) (_h3 : (Lit.int .i64 size).wf = true) (hl : ops.length = len) (ho : Ops w a ops) (_hn : len ≤ 9223372036854775807) :
    Calls Try.prog 8 #[.int .i64 rx, .int .i64 tx, .int .i64 pool, .int .i64 size, .slice a len cap] w fun e w' => e = .returned (.bool true) ∧ Below w.heap.size w w' := by
  clear _h0 _h1 _h2 _h3
  have HOP : Hid _ := ho
  clear ho
  have Q0 : Hid _ := port_any w rx tx pool size
  go_enter Try.func8, Try.ntmps8
  go_wp2_with fail
  refine Calls.mono Q0.out ?_
  rintro e w1 ⟨r, tt, p, sz, P, gb, gf, gr, gt, hs, rfl, hp, hb, hq⟩
  have hp5 := hs.h5
  have hp6 := hs.h6
  have H1 : Hid (PortAt w1 P gb gf gr gt (newK r tt p sz p) ∧ Below w.heap.size w w1 ∧ ∀ q, PB P gb gf gr gt (newK r tt p sz p) q → w.heap.size ≤ q) := ⟨hp, hb, hq⟩
  clear hp hb hq Q0 hs
  go_wp2_with fail
  refine Calls.mono (started_any w1) ?_
  rintro e w2 ⟨rfl, hb2⟩
  have A0 : Hid _ := rl_new (H1.out.1.below hb2) (H1.out.2.1.trans (hb2.mono H1.out.2.1.size)) (Nat.le_trans H1.out.2.1.size hb2.size) H1.out.2.2
  clear H1 hb2
  obtain ⟨wz, hwz⟩ : ∃ wz, wz = (w2.alloc (.cells #[.slice none 0 0, .slice none 0 0] 48)).alloc (.cells #[.slice none 0 0, .slice none 0 0] 66) := ⟨_, rfl⟩
  go_wp2
  rw [← hwz] at A0 ⊢
  obtain ⟨J, hJ⟩ : ∃ J, J = w2.heap.size + 1 := ⟨_, rfl⟩
  rw [← hJ] at A0 ⊢
  obtain ⟨K, hK⟩ : ∃ K, K = w2.heap.size := ⟨_, rfl⟩
  rw [← hK] at A0 ⊢
  clear hwz hJ hK
  go_loopw [18] (fun ix wr => ∃ (k : Nat) (t : RlS), k ≤ len ∧ k ≤ 200 ∧ ix = .int .i64 k ∧ Hid (Rl.Rl w.heap.size w wr P gb gf gr gt K J p t ∧ t.E.length ≤ k ∧ t.X.length ≤ 2 * k)) (fun ix _ => 200 - (intOf ix).toNat)
  case atStart => exact ⟨0, _, Nat.zero_le _, Nat.zero_le _, rfl, A0.out, Nat.zero_le _, Nat.zero_le _⟩
  case round =>
    obtain ⟨k, t, hi1, hi2, rfl, ST⟩ := hrel
    clear A0
    by_cases hlt : k < len ∧ k < 200
    · obtain ⟨hlt1, hlt2⟩ := hlt
      obtain ⟨ob, off, kd, two, i1, n1, oa, oc, fr, rfl, hobl, hov, hok, e0, e1, e2, e3, e4⟩ := ops_at HOP.out ST.out.1.bel k (by omega)
      have HV : Hid _ := hov
      have d1 : (k : Int) < (len : Int) := by omega
      have d2 : (k : Int) < 200 := by omega
      have d3 : (0 : Int) ≤ (k : Int) := by omega
      have d4 : ((k : Int)).toNat = k := by omega
      have hbA : Below wr.heap.size wr (wr.alloc (.cells (opCells kd two i1 n1 oa fr.length oc) 68)) := (Below.refl _ _).alloc (Nat.le_refl _) _
      have A1 : Hid (Rl.Rl w.heap.size w (wr.alloc (.cells (opCells kd two i1 n1 oa fr.length oc) 68)) P gb gf gr gt K J p t ∧ t.E.length ≤ k ∧ t.X.length ≤ 2 * k) := ⟨ST.out.1.below hbA, ST.out.2⟩
      have co : ∀ j, (wr.alloc (.cells (opCells kd two i1 n1 oa fr.length oc) 68)).cell? ⟨wr.heap.size, j, none⟩ = (opCells kd two i1 n1 oa fr.length oc)[j]? := fun j => World.cell?_alloc_at _ _ _ _ rfl
      have HCO : Hid _ := co
      clear hov hok hbA ST co
      by_cases k8 : kd = 8
      · subst k8
        have Q1 : Hid _ := drain_l A1.out.1.port A1.out.1.inv
        have c0 : (wr.alloc (.cells (opCells 8 two i1 n1 oa fr.length oc) 68)).cell? ⟨wr.heap.size, 0, none⟩ = some (.int .i64 8) := HCO.out 0
        go_wp2_with fail
        clear e0 e1 e2 e3 e4 c0
        refine Calls.mono Q1.out ?_
        rintro e w5 ⟨a5, l, ok, s5, rfl, hok, hO, pl, h256, hnP⟩
        have HO : Hid (Bk.OwnB w5 w.heap.size (.slice a5 l.length l.length) l.length l) := owns_mono hO A1.out.1.sz
        have A5 : Hid (Rl.Rl w.heap.size w w5 P gb gf gr gt K J p { t with s := s5 } ∧ t.E.length ≤ k ∧ t.X.length ≤ 2 * k) := ⟨A1.out.1.played pl, A1.out.2⟩
        have HF : Hid (∀ q, (Value.slice a5 l.length l.length).ownBlock = some q → ¬ PB P gb gf gr gt s5 q ∧ ¬ Bk.bB K t.vL t.vW t.E q ∧ ¬ Ib.bB J t.xL t.xW t.X q) := fun q hq => ⟨hnP q hq, fun e => by have h1 := (A1.out.1.book.lt q e).2; have h2 := (hO.lt q hq).1; omega, fun e => by have h1 := (A1.out.1.ints.lt q e).2; have h2 := (hO.lt q hq).1; omega⟩
        have QK : Hid _ := Bk.keep_any w5 w.heap.size K t.vL t.vW t.E A5.out.1.book (by have := A5.out.2.1; omega) A5.out.1.sz a5 l.length l HO.out h256 (fun q hq => (HF.out q hq).2.1)
        clear hO pl hnP A1 Q1 h256 HCO
        cases ok
        · have hl0 : ¬ ((0 : Int) < (l.length : Int)) := by rw [hok rfl]; simp
          clear hok
          go_wp2_with fail
          refine Calls.mono QK.out ?_
          rintro e w6 ⟨rfl, vL', vW', wa, wc, KP⟩
          have A6 : Hid (Rl.Rl w.heap.size w w6 P gb gf gr gt K J p { t with s := s5, vL := vL', vW := vW', E := t.E ++ [⟨a5, l.length, wa, wc, l⟩] } ∧ (t.E ++ [(⟨a5, l.length, wa, wc, l⟩ : Bk.BE)]).length ≤ k + 1 ∧ t.X.length ≤ 2 * (k + 1)) := ⟨A5.out.1.keptK KP (fun q hq e => (HF.out q hq).1 e) (fun q hq e => (HF.out q hq).2.2 e), by have := A5.out.2.1; simp; omega, by have := A5.out.2.2; omega⟩
          clear KP QK A5 HO HF
          have QU : Hid _ := Bk.untouched_any w6 w.heap.size K _ _ _ A6.out.1.book (by have := A6.out.2.1; simp only; omega)
          go_wp2_with fail
          refine Calls.mono QU.out ?_
          rintro e wU ⟨rfl, hbU⟩
          have AU : Hid _ := And.intro (A6.out.1.below hbU) A6.out.2
          have QV : Hid _ := Ib.untouched_any wU w.heap.size J _ _ _ AU.out.1.ints (by have := AU.out.2.2; simp only; omega)
          clear hbU QU A6
          go_wp2_with fail
          refine Calls.mono QV.out ?_
          rintro e wV ⟨rfl, hbV⟩
          have AV : Hid _ := And.intro (AU.out.1.below hbV) AU.out.2
          clear hbV QV AU
          go_wp2
          go_roundw
          case rel => exact ⟨k + 1, _, by omega, by omega, by go_num, AV.out.1, AV.out.2.1, AV.out.2.2⟩
          case measure => simp [intOf]; omega
        · clear hok
          go_wp2_with fail
          refine Calls.mono QK.out ?_
          rintro e w6 ⟨rfl, vL', vW', wa, wc, KP⟩
          have A6 : Hid (Rl.Rl w.heap.size w w6 P gb gf gr gt K J p { t with s := s5, vL := vL', vW := vW', E := t.E ++ [⟨a5, l.length, wa, wc, l⟩] } ∧ (t.E ++ [(⟨a5, l.length, wa, wc, l⟩ : Bk.BE)]).length ≤ k + 1 ∧ t.X.length ≤ 2 * (k + 1)) := ⟨A5.out.1.keptK KP (fun q hq e => (HF.out q hq).1 e) (fun q hq e => (HF.out q hq).2.2 e), by have := A5.out.2.1; simp; omega, by have := A5.out.2.2; omega⟩
          clear KP QK A5 HO HF
          have QU : Hid _ := Bk.untouched_any w6 w.heap.size K _ _ _ A6.out.1.book (by have := A6.out.2.1; simp only; omega)
          go_wp2_with fail
          refine Calls.mono QU.out ?_
          rintro e wU ⟨rfl, hbU⟩
          have AU : Hid _ := And.intro (A6.out.1.below hbU) A6.out.2
          have QV : Hid _ := Ib.untouched_any wU w.heap.size J _ _ _ AU.out.1.ints (by have := AU.out.2.2; simp only; omega)
          clear hbU QU A6
          go_wp2_with fail
          refine Calls.mono QV.out ?_
          rintro e wV ⟨rfl, hbV⟩
          have AV : Hid _ := And.intro (AU.out.1.below hbV) AU.out.2
          clear hbV QV AU
          go_wp2
          go_roundw
          case rel => exact ⟨k + 1, _, by omega, by omega, by go_num, AV.out.1, AV.out.2.1, AV.out.2.2⟩
          case measure => simp [intOf]; omega
      by_cases k9 : kd = 9
      · subst k9
        have c0 : (wr.alloc (.cells (opCells 9 two i1 n1 oa fr.length oc) 68)).cell? ⟨wr.heap.size, 0, none⟩ = some (.int .i64 9) := HCO.out 0
        by_cases hp64 : 64 < p
        · have d5 : (64 : Int) < (p : Int) := by omega
          go_wp2
          go_roundw
          case rel => exact ⟨k + 1, t, by omega, by omega, by go_num, A1.out.1, by have := A1.out.2.1; omega, by have := A1.out.2.2; omega⟩
          case measure => simp [intOf]; omega
        · have d5 : ¬ ((64 : Int) < (p : Int)) := by omega
          have Q1 : Hid _ := places_l A1.out.1.port A1.out.1.pool
          go_wp2_with fail
          clear e0 e1 e2 e3 e4 c0
          refine Calls.mono Q1.out ?_
          rintro e w5 ⟨g1, rfl, hr1, hb5⟩
          have A5 : Hid (Rl.Rl w.heap.size w w5 P gb gf gr gt K J p t ∧ t.E.length ≤ k ∧ t.X.length ≤ 2 * k) := ⟨A1.out.1.below hb5, A1.out.2⟩
          have Q2 : Hid _ := places_l A5.out.1.port A5.out.1.pool
          have R1 : Hid (Ib.OwnB w5 w.heap.size (.slice (some ⟨g1, 0, none⟩) p p) p (pL t.s)) := owns_mono hr1 A1.out.1.sz
          have hg1 := (form0 hr1).2.1
          have hg1' := (hr1.lt g1 rfl).2
          have F1 : Hid (¬ PB P gb gf gr gt t.s g1 ∧ ¬ Bk.bB K t.vL t.vW t.E g1 ∧ ¬ Ib.bB J t.xL t.xW t.X g1) := ⟨fun e => by have := A1.out.1.port.rowlt e; omega, fun e => by have := (A1.out.1.book.lt g1 e).2; omega, fun e => by have := (A1.out.1.ints.lt g1 e).2; omega⟩
          clear hr1 hb5 Q1 A1 hg1 HCO
          go_wp2_with fail
          refine Calls.mono Q2.out ?_
          rintro e w6 ⟨g2, rfl, hr2, hb6⟩
          have A6 : Hid (Rl.Rl w.heap.size w w6 P gb gf gr gt K J p t ∧ t.E.length ≤ k ∧ t.X.length ≤ 2 * k) := ⟨A5.out.1.below hb6, A5.out.2⟩
          have R2 : Hid (Ib.OwnB w6 w.heap.size (.slice (some ⟨g2, 0, none⟩) p p) p (pL t.s)) := owns_mono hr2 A5.out.1.sz
          have R1' : Hid (Ib.OwnB w6 w.heap.size (.slice (some ⟨g1, 0, none⟩) p p) p (pL t.s)) := R1.out.below hb6
          have hg2 := (form0 hr2).2.1
          have hg2' := (hr2.lt g2 rfl).2
          have F2 : Hid (¬ PB P gb gf gr gt t.s g2 ∧ ¬ Bk.bB K t.vL t.vW t.E g2 ∧ ¬ Ib.bB J t.xL t.xW t.X g2 ∧ g1 ≠ g2) := ⟨fun e => by have := A5.out.1.port.rowlt e; omega, fun e => by have := (A5.out.1.book.lt g2 e).2; omega, fun e => by have := (A5.out.1.ints.lt g2 e).2; omega, by omega⟩
          have hlen := pL_len t.s
          rw [A6.out.1.pool] at hlen
          have Q3' := Ib.same_any (some ⟨g1, 0, none⟩) (some ⟨g2, 0, none⟩) p p (pL t.s) w6 (Ib.owns_seg_at R1'.out).1 (Ib.owns_seg_at R2.out).1 (by omega)
          rw [hlen] at Q3'
          have Q3 : Hid _ := Q3'
          have HLEN : Hid ((pL t.s).length = p) := hlen
          have G2 : Hid (g2 < w6.heap.size) := hg2'
          clear hr2 hb6 Q2 A5 hg2 hg1' hg2' R1 Q3' hlen
          have hpp : ((p : Int) != (p : Int)) = false := by simp
          go_wp2_with fail
          refine Calls.mono Q3.out ?_
          rintro e w7 ⟨rfl, hb7⟩
          have A7 : Hid (Rl.Rl w.heap.size w w7 P gb gf gr gt K J p t ∧ t.E.length ≤ k ∧ t.X.length ≤ 2 * k) := ⟨A6.out.1.below hb7, A6.out.2⟩
          have R1 : Hid (Ib.OwnB w7 w.heap.size (.slice (some ⟨g1, 0, none⟩) p p) p (pL t.s)) := R1'.out.below hb7
          have R2' : Hid (Ib.OwnB w7 w.heap.size (.slice (some ⟨g2, 0, none⟩) p p) p (pL t.s)) := R2.out.below hb7
          have G2' : Hid (g2 < w7.heap.size) := Nat.lt_of_lt_of_le G2.out hb7.size
          have Q4' := Ib.keep_any w7 w.heap.size J t.xL t.xW t.X A7.out.1.ints (by have := A7.out.2.2; omega) A7.out.1.sz (some ⟨g1, 0, none⟩) p (pL t.s) (by rw [HLEN.out]; exact R1.out) ⟨pL_256 A7.out.1.inv, by rw [HLEN.out]; omega⟩ (fun q hq e => by
            have : g1 = q := by simpa [Value.ownBlock] using hq
            subst this
            exact F1.out.2.2 e)
          rw [HLEN.out] at Q4'
          have Q4 : Hid _ := Q4'
          clear hb7 Q3 A6 R1' R2 G2 Q4'
          go_wp2_with fail
          refine Calls.mono Q4.out ?_
          rintro e w8 ⟨rfl, xL', xW', wa, wc, KP⟩
          have A8 : Hid (Rl.Rl w.heap.size w w8 P gb gf gr gt K J p { t with xL := xL', xW := xW', X := t.X ++ [⟨some ⟨g1, 0, none⟩, p, wa, wc, pL t.s⟩] } ∧ t.E.length ≤ k ∧ t.X.length ≤ 2 * k) := ⟨A7.out.1.keptI KP (fun q hq e => by
            have : g1 = q := by simpa [Ib.BE.v, Value.ownBlock] using hq
            subst this
            exact F1.out.1 e) (fun q hq e => by
            have : g1 = q := by simpa [Ib.BE.v, Value.ownBlock] using hq
            subst this
            exact F1.out.2.1 e), A7.out.2⟩
          have R2 : Hid (Ib.OwnB w8 w.heap.size (.slice (some ⟨g2, 0, none⟩) p p) p (pL t.s)) := KP.ch.owns R2'.out (fun q hq e => by
            have : g2 = q := by simpa [Value.ownBlock] using hq
            subst this
            exact F2.out.2.2.1 e)
          have F3 : Hid (¬ Ib.bB J xL' xW' (t.X ++ [⟨some ⟨g1, 0, none⟩, p, wa, wc, pL t.s⟩]) g2) := fun e => by
            rcases KP.new g2 e with o | o | o
            · exact F2.out.2.2.1 o
            · have : g1 = g2 := by simpa [Ib.BE.v, Value.ownBlock] using o
              exact F2.out.2.2.2 this
            · have := G2'.out; omega
          have Q5' := Ib.keep_any w8 w.heap.size J xL' xW' _ A8.out.1.ints (by have := A8.out.2.2; simp; omega) A8.out.1.sz (some ⟨g2, 0, none⟩) p (pL t.s) (by rw [HLEN.out]; exact R2.out) ⟨pL_256 A8.out.1.inv, by rw [HLEN.out]; omega⟩ (fun q hq e => by
            have : g2 = q := by simpa [Value.ownBlock] using hq
            subst this
            exact F3.out e)
          rw [HLEN.out] at Q5'
          have Q5 : Hid _ := Q5'
          clear KP Q4 A7 R1 R2' G2' Q5'
          go_wp2_with fail
          refine Calls.mono Q5.out ?_
          rintro e w9 ⟨rfl, yL, yW, wa2, wc2, KP⟩
          have A9 : Hid (Rl.Rl w.heap.size w w9 P gb gf gr gt K J p { t with xL := yL, xW := yW, X := (t.X ++ [⟨some ⟨g1, 0, none⟩, p, wa, wc, pL t.s⟩]) ++ [⟨some ⟨g2, 0, none⟩, p, wa2, wc2, pL t.s⟩] } ∧ t.E.length ≤ k + 1 ∧ (t.X ++ [(⟨some ⟨g1, 0, none⟩, p, wa, wc, pL t.s⟩ : Ib.BE)] ++ [(⟨some ⟨g2, 0, none⟩, p, wa2, wc2, pL t.s⟩ : Ib.BE)]).length ≤ 2 * (k + 1)) := ⟨A8.out.1.keptI KP (fun q hq e => by
            have : g2 = q := by simpa [Ib.BE.v, Value.ownBlock] using hq
            subst this
            exact F2.out.1 e) (fun q hq e => by
            have : g2 = q := by simpa [Ib.BE.v, Value.ownBlock] using hq
            subst this
            exact F2.out.2.1 e), by have := A8.out.2.1; omega, by have := A8.out.2.2; simp; omega⟩
          clear KP Q5 A8 R2 F1 F2 F3 HLEN
          have QU : Hid _ := Bk.untouched_any w9 w.heap.size K _ _ _ A9.out.1.book (by have := A9.out.2.1; simp only; omega)
          go_wp2_with fail
          refine Calls.mono QU.out ?_
          rintro e wU ⟨rfl, hbU⟩
          have AU : Hid _ := And.intro (A9.out.1.below hbU) A9.out.2
          have QV : Hid _ := Ib.untouched_any wU w.heap.size J _ _ _ AU.out.1.ints (by have := AU.out.2.2; simp only; omega)
          clear hbU QU A9
          go_wp2_with fail
          refine Calls.mono QV.out ?_
          rintro e wV ⟨rfl, hbV⟩
          have AV : Hid _ := And.intro (AU.out.1.below hbV) AU.out.2
          clear hbV QV AU
          go_wp2
          go_roundw
          case rel => exact ⟨k + 1, _, by omega, by omega, by go_num, AV.out.1, AV.out.2.1, AV.out.2.2⟩
          case measure => simp [intOf]; omega
      have QD : Hid _ := do_any _ P gb gf gr gt t.s A1.out.1.port A1.out.1.inv kd two i1 n1 oa oc fr (HV.out.seg.below (B := w.heap.size) HV.out.seg.lt A1.out.1.bel) HV.out.h256 (At.apart (⟨A1.out.1.port, A1.out.1.inv, rfl, rfl, A1.out.1.bel, A1.out.1.pB⟩ : At w _ P gb gf gr gt _ _ t.s) HV.out.seg)
      have n8 : (kd == 8) = false := by simp [k8]
      have n9 : (kd == 9) = false := by simp [k9]
      have c0 : (wr.alloc (.cells (opCells kd two i1 n1 oa fr.length oc) 68)).cell? ⟨wr.heap.size, 0, none⟩ = some (.int .i64 kd) := HCO.out 0
      have c1 : (wr.alloc (.cells (opCells kd two i1 n1 oa fr.length oc) 68)).cell? ⟨wr.heap.size, 1, none⟩ = some (.bool two) := HCO.out 1
      have c2 : (wr.alloc (.cells (opCells kd two i1 n1 oa fr.length oc) 68)).cell? ⟨wr.heap.size, 2, none⟩ = some (.int .i64 i1) := HCO.out 2
      have c3 : (wr.alloc (.cells (opCells kd two i1 n1 oa fr.length oc) 68)).cell? ⟨wr.heap.size, 3, none⟩ = some (.int .i64 n1) := HCO.out 3
      have c4 : (wr.alloc (.cells (opCells kd two i1 n1 oa fr.length oc) 68)).cell? ⟨wr.heap.size, 4, none⟩ = some (.slice oa fr.length oc) := HCO.out 4
      go_wp2_with fail
      clear e0 e1 e2 e3 e4 c0 c1 c2 c3 c4
      refine Calls.mono QD.out ?_
      rintro e w5 ⟨s5, rr, rfl, pl, _⟩
      have A5 : Hid (Rl.Rl w.heap.size w w5 P gb gf gr gt K J p { t with s := s5 } ∧ t.E.length ≤ k + 1 ∧ t.X.length ≤ 2 * (k + 1)) := ⟨A1.out.1.played pl, by have := A1.out.2.1; omega, by have := A1.out.2.2; omega⟩
      clear pl A1 QD HCO
      have QU : Hid _ := Bk.untouched_any w5 w.heap.size K _ _ _ A5.out.1.book (by have := A5.out.2.1; simp only; omega)
      go_wp2_with fail
      refine Calls.mono QU.out ?_
      rintro e wU ⟨rfl, hbU⟩
      have AU : Hid _ := And.intro (A5.out.1.below hbU) A5.out.2
      have QV : Hid _ := Ib.untouched_any wU w.heap.size J _ _ _ AU.out.1.ints (by have := AU.out.2.2; simp only; omega)
      clear hbU QU A5
      go_wp2_with fail
      refine Calls.mono QV.out ?_
      rintro e wV ⟨rfl, hbV⟩
      have AV : Hid _ := And.intro (AU.out.1.below hbV) AU.out.2
      clear hbV QV AU
      go_wp2
      go_roundw
      case rel => exact ⟨k + 1, _, by omega, by omega, by go_num, AV.out.1, AV.out.2.1, AV.out.2.2⟩
      case measure => simp [intOf]; omega
    · have Q2 : Hid _ := Bk.settle_ch wr w.heap.size K t.vL t.vW t.E ST.out.1.book (by have := ST.out.2.1; omega) ST.out.1.sz
      by_cases h1 : k < len
      · have h2 : ¬ (k < 200) := fun e => hlt ⟨h1, e⟩
        have d1 : (k : Int) < (len : Int) := by omega
        have d2 : ¬ ((k : Int) < 200) := by omega
        clear hlt h1 h2
        go_wp2_with fail
        refine Calls.mono Q2.out ?_
        rintro e w2 ⟨rfl, hb2, hc2⟩
        have Q3 : Hid _ := Ib.settle_any w2 w.heap.size J t.xL t.xW t.X (ST.out.1.ints.ch hc2 (fun q hq e => ST.out.1.ki q e hq)) (by have := ST.out.2.2; omega) (Nat.le_trans ST.out.1.sz hb2.size)
        go_wp2_with fail
        refine Calls.mono Q3.out ?_
        rintro e w3 ⟨rfl, hb3⟩
        go_wp2
        go_ret
        exact ⟨rfl, (ST.out.1.bel.trans hb2).trans hb3⟩
      · have d1 : ¬ ((k : Int) < (len : Int)) := by omega
        clear hlt h1
        go_wp2_with fail
        refine Calls.mono Q2.out ?_
        rintro e w2 ⟨rfl, hb2, hc2⟩
        have Q3 : Hid _ := Ib.settle_any w2 w.heap.size J t.xL t.xW t.X (ST.out.1.ints.ch hc2 (fun q hq e => ST.out.1.ki q e hq)) (by have := ST.out.2.2; omega) (Nat.le_trans ST.out.1.sz hb2.size)
        go_wp2_with fail
        refine Calls.mono Q3.out ?_
        rintro e w3 ⟨rfl, hb3⟩
        go_wp2
        go_ret
        exact ⟨rfl, (ST.out.1.bel.trans hb2).trans hb3⟩
end Go.Proofs.Ythknkfggpdhdbaa.ringLent
