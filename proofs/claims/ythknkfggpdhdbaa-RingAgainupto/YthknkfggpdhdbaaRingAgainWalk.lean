/-
  The walk of RingAgain: it answers true, whatever it is handed within the bound, and writes nothing that was there.
-/
import Derived.Test.YthknkfggpdhdbaaK3l
namespace Go.Proofs.Ythknkfggpdhdbaa.ringAgain
open Go.RowKit
open Ag Bk Dk

set_option maxRecDepth 100000 in
set_option maxHeartbeats 6400000 in
theorem walk (w : World) (a : Option Addr) (len cap : Nat) (fs : List FrV) (hl : fs.length = len) (hs : FramesU w a fs) (_hn : len ≤ 1048576) :
    Calls Try.prog 7 #[.slice a len cap] w fun e w' => e = .returned (.bool true) ∧ Below w.heap.size w w' := by
  have HFS : Hid (FramesU w a fs) := hs
  have HL : Hid (fs.length = len) := hl
  have Q1 : Hid (Calls Try.prog 13 #[.int .i64 2, .int .i64 2, .int .i64 3, .int .i64 2048] w fun e w' => ∃ P gb gf gr gt, e = .returned (.tuple #[.pointer (some ⟨P, 0, none⟩), .int .i64 0]) ∧ PortAt w' P gb gf gr gt (newK 2 2 3 2048 3) ∧ Below w.heap.size w w' ∧ ∀ q, PB P gb gf gr gt (newK 2 2 3 2048 3) q → w.heap.size ≤ q) := New_yes w 2 2 3 2048 (by decide) (by decide) (by decide) (by decide) (by decide) (by decide) (by decide) (by decide)
  clear hs hl
  go_enter Try.func7, Try.ntmps7
  go_wp2_with fail
  refine Calls.mono Q1.out ?_
  rintro e w1 ⟨P, gb, gf, gr, gt, rfl, hp, hb1, hq1⟩
  have H1 : Hid (PortAt w1 P gb gf gr gt (newK 2 2 3 2048 3) ∧ Below w.heap.size w w1 ∧ ∀ q, PB P gb gf gr gt (newK 2 2 3 2048 3) q → w.heap.size ≤ q) := ⟨hp, hb1, hq1⟩
  clear hp hb1 hq1 Q1
  go_wp2_with fail
  refine Calls.mono (num_any 0 w1) ?_
  rintro e w2 ⟨rfl, rfl⟩
  go_wp2_with fail
  refine Calls.mono (started_any w1) ?_
  rintro e w2 ⟨rfl, hb2⟩
  have A0 : Hid _ := ag_new (H1.out.1.below hb2) (H1.out.2.1.trans (hb2.mono H1.out.2.1.size)) (Nat.le_trans H1.out.2.1.size hb2.size) H1.out.2.2
  clear H1 hb2
  obtain ⟨wz, hwz⟩ : ∃ wz, wz = (w2.alloc (.cells #[.slice none 0 0, .int .i64 0] 45)).alloc (.cells #[.slice none 0 0, .slice none 0 0] 48) := ⟨_, rfl⟩
  go_wp2
  rw [← hwz] at A0 ⊢
  obtain ⟨K, hK⟩ : ∃ K, K = w2.heap.size + 1 := ⟨_, rfl⟩
  rw [← hK] at A0 ⊢
  obtain ⟨D, hD⟩ : ∃ D, D = w2.heap.size := ⟨_, rfl⟩
  rw [← hD] at A0 ⊢
  clear hwz hK hD
  go_loopw [7] (fun ix wr => ∃ (i : Nat) (t : AgS), i ≤ len ∧ i ≤ 40 ∧ ix = .int .i64 i ∧ Hid (Ag.Ag w.heap.size w wr P gb gf gr gt D K t ∧ Fz t.s ∧ t.E.length ≤ i)) (fun ix _ => 40 - (intOf ix).toNat)
  case atStart => exact ⟨0, _, Nat.zero_le _, Nat.zero_le _, rfl, A0.out, fz_new, Nat.zero_le _⟩
  case round =>
    obtain ⟨i, t, hi1, hi2, rfl, ST⟩ := hrel
    clear A0
    by_cases hlt : i < len ∧ i < 40
    · obtain ⟨hlt1, hlt2⟩ := hlt
      obtain ⟨fb, off, ha, fok, FC⟩ := HFS.out.at i (by rw [HL.out]; exact hlt1)
      obtain ⟨fa, hfa⟩ : ∃ fa, fa = (fs[i]'(by rw [HL.out]; exact hlt1)).a := ⟨_, rfl⟩
      obtain ⟨l, hl⟩ : ∃ l, l = (fs[i]'(by rw [HL.out]; exact hlt1)).l := ⟨_, rfl⟩
      obtain ⟨fc, hfc⟩ : ∃ fc, fc = (fs[i]'(by rw [HL.out]; exact hlt1)).cap := ⟨_, rfl⟩
      rw [← hfa, ← hl, ← hfc] at FC
      have H256 : Hid (∀ x ∈ l, x < 256) := by rw [hl]; exact fok.b256
      have hle : l.length ≤ 1048576 := by rw [hl]; exact fok.le
      have HC : Hid (∀ x, Below w.heap.size w x → x.cell? ⟨fb, off + i, none⟩ = some (.slice fa l.length fc) ∧ Seg .u8 x fa (toI l)) := FC
      clear hfa hl hfc FC fok HFS
      subst ha
      have c0 := (HC.out wr ST.out.1.bel).1
      have d1 : (i : Int) < (len : Int) := by omega
      have d2 : (i : Int) < 40 := by omega
      have d3 : (0 : Int) ≤ (i : Int) := by omega
      have d4 : ((i : Int)).toNat = i := by omega
      have Q2 : Hid _ := refill_f ST.out.1.port ST.out.1.inv ST.out.2.1
      go_wp2_with fail
      refine Calls.mono Q2.out ?_
      rintro e w2 ⟨k, s2, hk, rfl, pl, F2, hx⟩
      have A2 : Hid (Ag.Ag w.heap.size w w2 P gb gf gr gt D K { t with s := s2 } ∧ Fz s2 ∧ 0 < s2.rx.length ∧ t.E.length ≤ i) := ⟨ST.out.1.played pl, F2, hx, ST.out.2.2⟩
      have hk1 : ¬ ((1 : Int) < (k : Int)) := by omega
      clear pl F2 hx ST Q2 c0 hk
      have Q3 : Hid _ := lend_any w2 w.heap.size D t.a t.N t.n t.xs A2.out.1.desk fa fc l (fun x hx => (HC.out x (A2.out.1.bel.trans hx)).2) hle A2.out.1.sz
      go_wp2_with fail
      refine Calls.mono Q3.out ?_
      rintro e w3 ⟨g, M, rfl, LT⟩
      have A3 : Hid (Ag.Ag w.heap.size w w3 P gb gf gr gt D K { t with s := s2, a := some ⟨g, 0, none⟩, N := M, n := l.length, xs := toI (dk l M) } ∧ Fz s2 ∧ 0 < s2.rx.length ∧ t.E.length ≤ i) := ⟨A2.out.1.lent LT, A2.out.2⟩
      have hM : l.length ≤ M := LT.le
      clear LT A2 Q3
      have Q4 : Hid _ := arrive_f A3.out.1.port A3.out.1.inv A3.out.2.1 A3.out.2.2.1 (some ⟨g, 0, none⟩) M l (desk_seg A3.out.1.desk) H256.out (fun x _ e => by
        cases e
        exact ⟨fun e => A3.out.1.pd P (.inl rfl) (.inr ⟨_, rfl, e⟩), fun e => A3.out.1.pd gb (.inr (.inl rfl)) (.inr ⟨_, rfl, e⟩)⟩)
      go_wp2_with fail
      refine Calls.mono Q4.out ?_
      rintro e w4 ⟨v, rfl, AR⟩
      have A4 : ∃ s4, Hid (Ag.Ag w.heap.size w w4 P gb gf gr gt D K { t with s := s4, a := some ⟨g, 0, none⟩, N := M, n := l.length, xs := toI (dk l M) } ∧ ((2048 < l.length ∧ (v = 30 ∨ v = 2) ∧ Fz s4) ∨ (l.length ≤ 2048 ∧ v = 0 ∧ ∃ j rest, Az s4 j rest l)) ∧ t.E.length ≤ i) := by
        rcases AR with ⟨e1, e2, e3⟩ | ⟨e1, e2, s4, j, rest, e3, e4⟩
        · exact ⟨s2, A3.out.1.below e3, .inl ⟨e1, e2, A3.out.2.1⟩, A3.out.2.2.2⟩
        · exact ⟨s4, A3.out.1.played e3, .inr ⟨e1, e2, j, rest, e4⟩, A3.out.2.2.2⟩
      obtain ⟨s4, A4⟩ := A4
      clear AR A3 Q4
      go_wp2_with fail
      refine Calls.mono (num_any v w4) ?_
      rintro e wN ⟨rfl, rfl⟩
      have Q5 : Hid _ := back_any w4 w.heap.size D g M fa fc l A4.out.1.desk hM (HC.out w4 A4.out.1.bel).2 H256.out
      go_wp2_with fail
      refine Calls.mono Q5.out ?_
      rintro e w5 ⟨rfl, hb5⟩
      have A5 : Hid (Ag.Ag w.heap.size w w5 P gb gf gr gt D K { t with s := s4, a := some ⟨g, 0, none⟩, N := M, n := l.length, xs := toI (dk l M) } ∧ ((2048 < l.length ∧ (v = 30 ∨ v = 2) ∧ Fz s4) ∨ (l.length ≤ 2048 ∧ v = 0 ∧ ∃ j rest, Az s4 j rest l)) ∧ t.E.length ≤ i) := ⟨A4.out.1.below hb5, A4.out.2⟩
      clear A4 Q5 hb5
      have Q6 : Hid _ := wipe_any w5 w.heap.size D g M l.length _ A5.out.1.desk hM
      go_wp2_with fail
      refine Calls.mono Q6.out ?_
      rintro e w6 ⟨rfl, ⟨ys, hd6⟩, c6⟩
      have A6 : Hid (Ag.Ag w.heap.size w w6 P gb gf gr gt D K { t with s := s4, a := some ⟨g, 0, none⟩, N := M, n := l.length, xs := ys } ∧ t.E.length ≤ i) := ⟨A5.out.1.wiped rfl hd6 c6, A5.out.2.2⟩
      have CS := A5.out.2.1
      clear A5 Q6 hd6 c6
      rcases CS with ⟨h1, h2, F4⟩ | ⟨h1, rfl, j, rest, Z4⟩
      · have HF : Hid (Fz s4) := F4
        have d5 : (2048 : Int) < (l.length : Int) := by omega
        clear F4 h1
        rcases h2 with rfl | rfl
        · go_wp2
          go_roundw
          case rel => exact ⟨i + 1, _, by omega, by omega, by go_num, A6.out.1, HF.out, Nat.le_succ_of_le A6.out.2⟩
          case measure => simp [intOf]; omega
        · go_wp2
          go_roundw
          case rel => exact ⟨i + 1, _, by omega, by omega, by go_num, A6.out.1, HF.out, Nat.le_succ_of_le A6.out.2⟩
          case measure => simp [intOf]; omega
      · have d5 : ¬ ((2048 : Int) < (l.length : Int)) := by omega
        have Q7 : Hid _ := poll_f A6.out.1.port A6.out.1.inv Z4
        clear Z4
        go_wp2_with fail
        refine Calls.mono Q7.out ?_
        rintro e w7 ⟨b, s7, rfl, pl, Z7⟩
        have A7 : Hid (Ag.Ag w.heap.size w w7 P gb gf gr gt D K { t with s := s7, a := some ⟨g, 0, none⟩, N := M, n := l.length, xs := ys } ∧ t.E.length ≤ i) := ⟨A6.out.1.played pl, A6.out.2⟩
        have HZ : Hid (Pz s7 j b l) := Z7
        clear pl Z7 Q7 A6
        have Q8 : Hid _ := alike_same w7 (some ⟨b, 0, none⟩) fa l.length fc l (win_seg A7.out.1.port HZ.out) (HC.out w7 A7.out.1.bel).2 H256.out
        have Q9 : Hid _ := send_f A7.out.1.port A7.out.1.inv HZ.out h1
        go_wp2_with fail
        refine Calls.mono Q8.out ?_
        rintro e wN ⟨rfl, rfl⟩
        go_wp2_with fail
        refine Calls.mono Q9.out ?_
        rintro e w8 ⟨s8, rfl, pl, Z8⟩
        have A8 : Hid (Ag.Ag w.heap.size w w8 P gb gf gr gt D K { t with s := s8, a := some ⟨g, 0, none⟩, N := M, n := l.length, xs := ys } ∧ t.E.length ≤ i) := ⟨A7.out.1.played pl, A7.out.2⟩
        have HZ8 : Hid (Sz s8 j l) := Z8
        clear pl Z8 Q8 Q9 A7 HZ
        go_wp2_with fail
        refine Calls.mono (num_any 0 w8) ?_
        rintro e wN ⟨rfl, rfl⟩
        have Q10 : Hid _ := drain_f A8.out.1.port A8.out.1.inv HZ8.out
        go_wp2_with fail
        refine Calls.mono Q10.out ?_
        rintro e w9 ⟨gx, s9, rfl, ho, pl, F9, hnP⟩
        have A9 : Hid (Ag.Ag w.heap.size w w9 P gb gf gr gt D K { t with s := s9, a := some ⟨g, 0, none⟩, N := M, n := l.length, xs := ys } ∧ t.E.length ≤ i) := ⟨A8.out.1.played pl, A8.out.2⟩
        have hgx := (form0 ho).2.1
        have HF9 : Hid (Fz s9 ∧ ¬ PB P gb gf gr gt s9 gx ∧ ¬ dB D (some ⟨g, 0, none⟩) gx ∧ ¬ bB K t.vL t.vW t.E gx) := ⟨F9, hnP, fun e => by have := (desk_lt A8.out.1.desk gx e).2; omega, fun e => by have := (A8.out.1.book.lt gx e).2; omega⟩
        have HO : Hid (OwnB w9 w.heap.size (.slice (some ⟨gx, 0, none⟩) l.length l.length) l.length l) := owns_mono ho A8.out.1.sz
        clear ho pl F9 hnP hgx A8 HZ8 Q10
        have Q11 : Hid _ := alike_same w9 (some ⟨gx, 0, none⟩) fa l.length fc l (owns_seg_at HO.out).1 (HC.out w9 A9.out.1.bel).2 H256.out
        have Q12 : Hid _ := keep_any w9 w.heap.size K t.vL t.vW t.E A9.out.1.book (by have := A9.out.2; omega) A9.out.1.sz (some ⟨gx, 0, none⟩) l.length l HO.out ⟨H256.out, by omega⟩ (fun q hq e => by
          have : gx = q := by simpa [Value.ownBlock] using hq
          subst this
          exact HF9.out.2.2.2 e)
        go_wp2_with fail
        refine Calls.mono Q11.out ?_
        rintro e wN ⟨rfl, rfl⟩
        go_wp2_with fail
        refine Calls.mono Q12.out ?_
        rintro e w10 ⟨rfl, vL', vW', wa, wc, KP⟩
        have A10 : Hid (Ag.Ag w.heap.size w w10 P gb gf gr gt D K { t with s := s9, a := some ⟨g, 0, none⟩, N := M, n := l.length, xs := ys, vL := vL', vW := vW', E := t.E ++ [⟨some ⟨gx, 0, none⟩, l.length, wa, wc, l⟩] }) := A9.out.1.kept KP (fun q hq e => by
            have : gx = q := by simpa [BE.v, Value.ownBlock] using hq
            subst this
            exact HF9.out.2.1 e) (fun q hq e => by
            have : gx = q := by simpa [BE.v, Value.ownBlock] using hq
            subst this
            exact HF9.out.2.2.1 e)
        have HE : Hid (t.E.length ≤ i) := A9.out.2
        clear KP Q11 Q12 A9 HO
        have Q13 : Hid _ := untouched_any w10 w.heap.size K vL' vW' _ A10.out.book (by have := HE.out; simp; omega)
        go_wp2_with fail
        refine Calls.mono Q13.out ?_
        rintro e w11 ⟨rfl, hb11⟩
        have A11 : Hid _ := A10.out.below hb11
        clear hb11 A10 Q13
        go_wp2
        go_roundw
        case rel => exact ⟨i + 1, _, by omega, by omega, by go_num, A11.out, HF9.out.1, by have := HE.out; simp; omega⟩
        case measure => simp [intOf]; omega
    · have Q2 : Hid _ := settle_any wr w.heap.size K t.vL t.vW t.E ST.out.1.book (by have := ST.out.2.2; omega) ST.out.1.sz
      by_cases h1 : i < len
      · have h2 : ¬ (i < 40) := fun e => hlt ⟨h1, e⟩
        have d1 : (i : Int) < (len : Int) := by omega
        have d2 : ¬ ((i : Int) < 40) := by omega
        clear hlt h1 h2
        go_wp2_with fail
        refine Calls.mono Q2.out ?_
        rintro e w2 ⟨rfl, hb2⟩
        go_wp2
        go_ret
        exact ⟨rfl, ST.out.1.bel.trans hb2⟩
      · have d1 : ¬ ((i : Int) < (len : Int)) := by omega
        clear hlt h1
        go_wp2_with fail
        refine Calls.mono Q2.out ?_
        rintro e w2 ⟨rfl, hb2⟩
        go_wp2
        go_ret
        exact ⟨rfl, ST.out.1.bel.trans hb2⟩
end Go.Proofs.Ythknkfggpdhdbaa.ringAgain
