/-
  The walk of RingFifo: it answers true, whatever it is handed, and writes nothing that was there.
-/
import Derived.Test.YtaicmpkgcppplaaRingFifo1
import Derived.Deep.CutBlock
namespace Go.Proofs.Ytaicmpkgcppplaa.ringFifo
open Go.RowKit

theorem frS_seg {w0 wr : World} {P gb gf gr gt p sz : Nat} {s : PS} (h : At w0 wr P gb gf gr gt p sz s) (i b : Nat) (hi : i < s.pool) (hb : s.bb i = some b) : Seg .u8 wr (some ⟨b, 0, none⟩) (toI (frS s i)) := by
  obtain ⟨aa, cc, e1, sg, _⟩ := owns_seg (h.port.row i b hi hb)
  have e2 : some ⟨b, 0, none⟩ = aa := (Value.slice.inj e1).1
  have hl := h.inv.ln i hi
  have hd := h.port.dl i hi
  have := sg.part0 (s.ln i) (by rw [toI_len]; omega)
  rw [← e2, toI_take] at this
  exact this
theorem frS_len {w0 wr : World} {P gb gf gr gt p sz : Nat} {s : PS} (h : At w0 wr P gb gf gr gt p sz s) (i : Nat) (hi : i < s.pool) : (frS s i).length = s.ln i := by
  have hl := h.inv.ln i hi
  have hd := h.port.dl i hi
  show ((s.da i).take (s.ln i)).length = _
  rw [List.length_take]; omega
theorem frS_256 {w0 wr : World} {P gb gf gr gt p sz : Nat} {s : PS} (h : At w0 wr P gb gf gr gt p sz s) (i : Nat) (hi : i < s.pool) : ∀ x ∈ frS s i, x < 256 := fun x hx => h.port.d256 i hi x (List.mem_of_mem_take hx)

theorem fi_start {w0 w4 : World} {P gb gf gr gt p sz : Nat} {s : PS} (h : At w0 w4 P gb gf gr gt p sz s) :
    Fi w0 ((w4.alloc (.cells #[.int .u8 5, .int .u8 6] 5)).alloc (.cells #[.slice (some ⟨w4.heap.size, 0, none⟩) 2 2] 30)) P gb gf gr gt p sz w4.heap.size s (.slice (some ⟨w4.heap.size + 1, 0, none⟩) 1 1) (.slice none 0 0) [⟨some ⟨w4.heap.size, 0, none⟩, 2, [5, 6]⟩] [] := by
  have b1 := (Below.refl w4.heap.size w4).alloc (Nat.le_refl _) (.cells #[.int .u8 5, .int .u8 6] 5)
  have b2 := b1.alloc b1.size (.cells #[.slice (some ⟨w4.heap.size, 0, none⟩) 2 2] 30)
  have hs := h.bel.size
  have hn : ∀ q, w4.heap.size ≤ q → ¬ PB P gb gf gr gt s q := fun q hq hp => by have := h.old q hp; omega
  have hh := heap_alloc_new (w4.alloc (.cells #[.int .u8 5, .int .u8 6] 5)) (.cells #[.slice (some ⟨w4.heap.size, 0, none⟩) 2 2] 30)
  rw [World.size_alloc] at hh
  have sg : Seg .u8 (w4.alloc (.cells #[.int .u8 5, .int .u8 6] 5)) (some ⟨w4.heap.size, 0, none⟩) (toI [5, 6]) := seg_new3 w4 .u8 5 [5, 6]
  refine ⟨h.below b2, .inr ⟨w4.heap.size + 1, 0, 1, _, rfl, by omega, hh, Nat.le_refl _, Nat.le_refl _, fun i hi => ?_⟩, .inl ⟨rfl, rfl⟩, fun g _ e => (by simp [Value.ownBlock] at e), fun e he => ?_, fun e he => (by cases he), hn _ (Nat.le_refl _), (by simp; omega), hs, fun g hg => ?_, fun g hg => (by simp [Value.ownBlock] at hg)⟩
  · have : i = 0 := by simp at hi; omega
    subst this
    rfl
  · rw [List.mem_singleton.1 he]
    exact ⟨sg.old ((Below.refl _ _).alloc (Nat.le_refl _) _), (by show ∀ x ∈ ([5, 6] : List Nat), x < 256; decide), fun x _ e => .inr (by have := Option.some.inj e; rw [← this])⟩
  · have e : w4.heap.size + 1 = g := Option.some.inj hg
    exact ⟨by omega, hn g (by omega)⟩

theorem rest1 {w : World} {base g k n cap : Nat} {x : Value} {L : List Value} (h : Qu w base (.slice (some ⟨g, k, none⟩) n cap) (x :: L)) : Qu w base (.slice (if cap = 1 then some ⟨g, k, none⟩ else some ⟨g, k + 1, none⟩) L.length (cap - 1)) L ∧ w.cell? ⟨g, k, none⟩ = some x := by
  rcases h with ⟨h0, _⟩ | ⟨g', k', cap', cur, ev, hb, hh, h1, h2, hc⟩
  · cases h0
  · obtain ⟨e1, _, e3⟩ := Value.slice.inj ev
    have e4 := Option.some.inj e1
    obtain ⟨e5, e6, _⟩ := Addr.mk.inj e4
    subst e5 e6 e3
    simp only [List.length_cons] at h1 hc
    refine ⟨?_, ?_⟩
    · by_cases hcap : cap = 1
      · rw [if_pos hcap]
        have hL : L = [] := List.eq_nil_of_length_eq_zero (by omega)
        subst hL
        exact .inr ⟨g, k, cap - 1, cur, rfl, hb, hh, by simp, by omega, fun i hi => by simp at hi⟩
      · rw [if_neg hcap]
        refine .inr ⟨g, k + 1, cap - 1, cur, rfl, hb, hh, by omega, by omega, fun i hi => ?_⟩
        have := hc (i + 1) (by omega)
        rw [List.getElem?_cons_succ] at this
        rw [← this]
        congr 1
        omega
    · have := hc 0 (by omega)
      simp only [Nat.add_zero, List.getElem?_cons_zero] at this
      simp [World.cell?, hh, this]
theorem own1 (g k n m cap cap' : Nat) (c : Prop) [Decidable c] : (Value.slice (if c then some ⟨g, k, none⟩ else some ⟨g, k + 1, none⟩) n cap).ownBlock = (Value.slice (some ⟨g, k, none⟩) m cap').ownBlock := by split <;> rfl
theorem ctail1 {w0 wr : World} {P gb gf gr gt p sz gl : Nat} {s : PS} {vo : Value} {e : EV} {Lc Lo : List EV} {g k cap : Nat} (h : Fi w0 wr P gb gf gr gt p sz gl s (.slice (some ⟨g, k, none⟩) (Lc.length + 1) cap) vo (e :: Lc) Lo) :
    Fi w0 wr P gb gf gr gt p sz gl s (.slice (if cap = 1 then some ⟨g, k, none⟩ else some ⟨g, k + 1, none⟩) Lc.length (cap - 1)) vo Lc Lo ∧ wr.cell? ⟨g, k, none⟩ = some (.slice e.a e.fr.length e.c) := by
  obtain ⟨h1, h2⟩ := rest1 h.qc
  rw [List.length_map] at h1
  exact ⟨h.ctail h1 (own1 _ _ _ _ _ _ _), h2⟩
theorem otail1 {w0 wr : World} {P gb gf gr gt p sz gl : Nat} {s : PS} {vc : Value} {e : EV} {Lc Lo : List EV} {g k cap : Nat} (h : Fi w0 wr P gb gf gr gt p sz gl s vc (.slice (some ⟨g, k, none⟩) (Lo.length + 1) cap) Lc (e :: Lo)) :
    Fi w0 wr P gb gf gr gt p sz gl s vc (.slice (if cap = 1 then some ⟨g, k, none⟩ else some ⟨g, k + 1, none⟩) Lo.length (cap - 1)) Lc Lo ∧ wr.cell? ⟨g, k, none⟩ = some (.slice e.a e.fr.length e.c) := by
  obtain ⟨h1, h2⟩ := rest1 h.qo
  rw [List.length_map] at h1
  exact ⟨h.otail h1 (own1 _ _ _ _ _ _ _), h2⟩
theorem release_z {w : World} {P gb gf gr gt : Nat} {s : PS} (h : PortAt w P gb gf gr gt s) (hi : PInv s) (k : Nat) (hk : k < s.pool) (h4 : s.pl k = 4) :
    Calls Try.prog 16 #[.pointer (some ⟨P, 0, none⟩), .int .i64 k] w fun e w' => e = .returned (.int .i64 0) ∧ Played w w' P gb gf gr gt s { s with pl := updF s.pl k 1, fr := s.fr ++ [k] } := by
  have he0 : hE s (k : Int) = 0 := hE_held hk h4
  refine (release_t h hi (k : Int)).mono ?_
  rintro e w' ⟨rfl, ⟨hne, _⟩ | ⟨k', ek, _, _, _, hp⟩⟩
  · exact absurd he0 hne
  · have : k' = k := by omega
    subst this
    exact ⟨by rw [he0], hp⟩

set_option maxRecDepth 100000 in
set_option maxHeartbeats 6400000 in
theorem walk (rx tx pool size : Int) (a : Option Addr) (len cap : Nat) (ops : List OpV) (w : World) (_h0 : (Lit.int .i64 rx).wf = true) (_h1 : (Lit.int .i64 tx).wf = true) (_h2 : (Lit.int .i64 pool).wf = true) (_h3 : (Lit.int .i64 size).wf = true) (hl : ops.length = len) (ho : Ops w a ops) (hn : len ≤ 9223372036854775807) :
    Calls Try.prog 3 #[.int .i64 rx, .int .i64 tx, .int .i64 pool, .int .i64 size, .slice a len cap] w fun e w' => e = .returned (.bool true) ∧ Below w.heap.size w w' := by
  clear _h0 _h1 _h2 _h3
  have HOP : Hid _ := ho
  clear ho
  go_enter Try.func3, Try.ntmps3
  go_wp2_with fail
  refine (port_any w rx tx pool size).mono ?_
  rintro e w1 ⟨r, t, p, sz, P, gb, gf, gr, gt, hs, rfl, hp, hb, hq⟩
  have A0 : At w w1 P gb gf gr gt p sz (newK r t p sz p) := ⟨hp, newK_inv r t p sz, rfl, rfl, hb, hq⟩
  have hp5 := hs.h5
  have hp6 := hs.h6
  have hr1 := hs.h1
  have hs7 := hs.h7
  have Q2 : Hid _ := refill_t A0.port A0.inv 1
  clear hp hb hq hs
  go_wp2_with fail
  refine Calls.mono Q2.out ?_
  rintro e w3 ⟨k1, hk1, rfl, hp3⟩
  have hk1' : k1 = 1 := by simp [newK] at hk1; omega
  subst hk1'
  have A1 := A0.next hp3
  obtain ⟨s1, hs1⟩ : ∃ s1, s1 = (newK r t p sz p).refilled 1 := ⟨_, rfl⟩
  have p1 : s1.rx.length = 1 := by rw [hs1]; show ([] ++ (List.range p).take 1).length = 1; simp; omega
  have p2 : s1.filled = 0 := by rw [hs1]; rfl
  have p3 : s1.tx = [] := by rw [hs1]; rfl
  rw [← hs1] at A1
  clear Q2 hp3 A0 hk1 hs1
  have hbA := (Below.refl w3.heap.size w3).alloc (Nat.le_refl _) (.cells #[.int .u8 5, .int .u8 6] 5)
  have A2 := A1.below hbA
  have sg : Seg .u8 (w3.alloc (.cells #[.int .u8 5, .int .u8 6] 5)) (some ⟨w3.heap.size, 0, none⟩) (toI [5, 6]) := seg_new3 w3 .u8 5 [5, 6]
  have ha0 : aE s1 [5, 6].length = 0 := by
    have h1 := A1.size
    unfold aE
    rw [if_neg (by decide), if_neg (by rw [h1]; simp; omega), if_neg (by rw [p1, p2]; decide)]
  have Q3 : Hid _ := arrive_t A2.port A2.inv (some ⟨w3.heap.size, 0, none⟩) 2 [5, 6] sg (by decide) (fun x _ e => by
    have e' := Option.some.inj e
    subst e'
    have u1 := A1.old P (.inl rfl)
    have u2 := A1.old gb (.inr (.inl rfl))
    exact ⟨by show w3.heap.size ≠ _; omega, by show w3.heap.size ≠ _; omega⟩)
  rw [ha0] at Q3
  clear A1 hbA sg ha0
  go_wp2_with fail
  refine Calls.mono Q3.out ?_
  rintro e w4 ⟨rfl, ⟨hne, _⟩ | ⟨_, hk, b, hp4⟩⟩
  · exact absurd rfl hne
  have A3 := A2.next hp4
  have M0 : Mt s1 [] [] := ⟨by rw [p2]; rfl, by rw [p3]; rfl⟩
  have M1 := M0.arrive A2.inv hk b ⟨some ⟨w4.heap.size, 0, none⟩, 2, [5, 6]⟩
  obtain ⟨s2, hs2⟩ : ∃ s2, s2 = s1.arrived s1.rx[s1.filled] b [5, 6] := ⟨_, rfl⟩
  rw [← hs2] at A3
  have M2 : Mt s2 [⟨some ⟨w4.heap.size, 0, none⟩, 2, [5, 6]⟩] [] := by rw [hs2]; exact M1
  clear Q3 A2 hp4 M0 M1 hs2 p1 p2 p3 hk
  go_wp2_with (first | (go_at_call 11; refine (num_any _ _).mono ?_; rintro e w9 ⟨rfl, rfl⟩))
  have F0 := fi_start A3
  obtain ⟨gl, hgl⟩ : ∃ gl, gl = w4.heap.size := ⟨_, rfl⟩
  obtain ⟨W, hW⟩ : ∃ W, W = (w4.alloc (.cells #[.int .u8 5, .int .u8 6] 5)).alloc (.cells #[.slice (some ⟨w4.heap.size, 0, none⟩) 2 2] 30) := ⟨_, rfl⟩
  rw [← hW] at F0 ⊢
  rw [← hgl] at F0 M2 ⊢
  clear hW A3 hgl
  go_loopw [16, 17, 18] (fun vc vo ix wr => ∃ (k : Nat) (s : PS) (Lc Lo : List EV), k ≤ len ∧ ix = .int .i64 k ∧ Fi w wr P gb gf gr gt p sz gl s vc vo Lc Lo ∧ Mt s Lc Lo) (fun _ _ ix _ => len - (intOf ix).toNat)
  case atStart => exact ⟨0, s2, _, _, Nat.zero_le _, rfl, F0, M2⟩
  case round =>
    obtain ⟨k, s, Lc, Lo, hk, rfl, hF, hM⟩ := hrel
    clear F0 M2
    obtain ⟨ac, cc, ec⟩ := hF.qc.shape
    obtain ⟨ao, co, eo⟩ := hF.qo.shape
    rw [List.length_map] at ec eo
    subst ec eo
    have hlo' := hM.olen' hF
    by_cases hlt : k < len
    case neg =>
      obtain rfl : k = len := by omega
      clear hlt hk
      obtain ⟨N, hN⟩ : ∃ N, N = Lo.length := ⟨_, rfl⟩
      have HN : Hid (Lo.length = N) := hN.symm
      rw [← hN] at hF hlo' ⊢
      have M0 : Mt s Lc (Lo.drop 0) := hM
      clear hN hM
      go_wp2
      go_loopw [25] (fun ix wq => ∃ (j : Nat) (s' : PS), j ≤ N ∧ ix = .int .i64 j ∧ Fi w wq P gb gf gr gt p sz gl s' (.slice ac Lc.length cc) (.slice ao N co) Lc Lo ∧ Mt s' Lc (Lo.drop j)) (fun ix _ => N - (intOf ix).toNat)
      case atStart => exact ⟨0, s, Nat.zero_le _, rfl, hF, M0⟩
      case round =>
        obtain ⟨j, s', hj, rfl, F1, M1⟩ := hrel
        clear hF M0
        by_cases hjl : j < N
        · have hjL : j < Lo.length := by have := HN.out; omega
          obtain ⟨e, he⟩ : ∃ e, Lo[j]? = some e := ⟨Lo[j], by simp [hjL]⟩
          have hdr : Lo.drop j = e :: Lo.drop (j + 1) := by
            rw [List.drop_eq_getElem_cons hjL]
            congr 1
            rw [List.getElem?_eq_getElem hjL] at he
            exact Option.some.inj he
          rw [hdr] at M1
          have Q1 : Hid _ := drain_t F1.at'.port F1.at'.inv
          go_wp2_with fail
          refine Calls.mono Q1.out ?_
          rintro e' w5 (⟨h0, _⟩ | ⟨i5, g5, b5, rest5, hx5, hi5, rfl, hrow5, _, hbb5, hp5'⟩)
          · have := M1.olen; rw [h0] at this; simp at this
          have F2 := F1.played hp5'
          obtain ⟨M2, hfr⟩ := M1.drain (b := b5) hx5
          obtain ⟨g6, kk6, cap6, ev6, cell6⟩ := F2.qo.at j e.v (by rw [List.getElem?_map, he]; rfl)
          rw [List.length_map, HN.out] at ev6
          obtain ⟨e1', _, e3'⟩ := Value.slice.inj ev6
          subst e1' e3'
          have lW : e.fr.length = s'.ln i5 := by rw [← hfr]; exact frS_len F1.at' i5 hi5
          have dW : ∀ x ∈ e.fr, x < 256 := by rw [← hfr]; exact frS_256 F1.at' i5 hi5
          have sW : Seg .u8 w5 (some ⟨g5, 0, none⟩) (toI e.fr) := by
            obtain ⟨aa, cc', e1, sg, _⟩ := owns_seg hrow5
            have e2 : some ⟨g5, 0, none⟩ = aa := (Value.slice.inj e1).1
            rw [e2, ← hfr]
            exact sg
          have okE := F2.eo e (List.mem_of_getElem? he)
          have Q2 : Hid _ := alike_any (some ⟨g5, 0, none⟩) e.a e.fr.length e.c e.fr e.fr w5 sW okE.seg dW dW
          rw [decide_eq_true rfl] at Q2
          rw [← lW]
          have cell7 : w5.cell? ⟨g6, kk6 + j, none⟩ = some (.slice e.a e.fr.length e.c) := cell6
          obtain ⟨eL, heL⟩ : ∃ eL, eL = e.fr.length := ⟨_, rfl⟩
          rw [← heL] at cell7 Q2 ⊢
          clear Q1 hp5' F1 M1 hx5 hbb5 hfr ev6 sW dW heL lW hrow5 okE cell6 hdr he hjL
          go_wp2_with fail
          refine Calls.mono Q2.out ?_
          rintro e' w6 ⟨rfl, rfl⟩
          clear Q2
          go_wp2
          go_roundw
          case rel => exact ⟨j + 1, _, by omega, by go_num, F2, M2⟩
          case measure => simp [intOf]; omega
        · have hbel := F1.at'.bel
          clear F1 M1
          go_wp2
          go_ret
          exact ⟨rfl, hbel⟩
    obtain ⟨ob, off, kd, two, i1, n1, oa, oc, fr, rfl, hobl, hov, hok, e0, e1, e2, e3, e4⟩ := ops_at HOP.out hF.at'.bel k (by omega)
    have HV : Hid _ := hov
    have hbA : Below wr.heap.size wr (wr.alloc (.cells (opCells kd two i1 n1 oa fr.length oc) 33)) := (Below.refl _ _).alloc (Nat.le_refl _) _
    have F1 := hF.below hbA
    have c4 : (wr.alloc (.cells (opCells kd two i1 n1 oa fr.length oc) 33)).cell? ⟨wr.heap.size, 4, none⟩ = some (.slice oa fr.length oc) := World.cell?_alloc_at _ _ _ _ rfl
    have hOn : ¬ PB P gb gf gr gt s wr.heap.size := fun hq => by have := hF.at'.old _ hq; omega
    clear hov hok hbA hF
    by_cases k2 : kd = 2
    · subst k2
      have hseg : Seg .u8 (wr.alloc (.cells (opCells 2 two i1 n1 oa fr.length oc) 33)) oa (toI fr) := HV.out.seg.below (B := w.heap.size) HV.out.seg.lt F1.at'.bel
      have Q1 : Hid _ := arrive_t F1.at'.port F1.at'.inv oa oc fr hseg HV.out.h256 (F1.at'.apart HV.out.seg)
      clear hseg
      go_wp2_with fail
      clear e0 e1 e2 e3 e4
      refine Calls.mono Q1.out ?_
      rintro e w5 ⟨rfl, ⟨hne, hb5⟩ | ⟨he, hk5, b5, hp5'⟩⟩
      · obtain ⟨r5, hr5⟩ : ∃ r5, r5 = aE s fr.length := ⟨_, rfl⟩
        rw [← hr5] at hne ⊢
        have hz : (r5 == 0) = false := by simpa using hne
        have F2 := F1.below hb5
        clear Q1 hne hb5 hr5 F1 c4
        go_wp2_with (first | (go_at_call 11; refine (num_any _ _).mono ?_; rintro e w9 ⟨rfl, rfl⟩))
        go_roundw
        case rel => exact ⟨k + 1, s, Lc, Lo, by omega, by go_num, F2, hM⟩
        case measure => simp [intOf]; omega
      · rw [he]
        have F2 := F1.played hp5'
        have M2 := hM.arrive F1.at'.inv hk5 b5 ⟨oa, oc, fr⟩
        have c5 := hp5'.ch.cell c4 hOn
        obtain ⟨O, hO⟩ : ∃ O, O = wr.heap.size := ⟨_, rfl⟩
        rw [← hO] at c5 ⊢
        have hlc' := hM.clen' F1
        obtain ⟨s5, hs5⟩ : ∃ s5, s5 = s.arrived s.rx[s.filled] b5 fr := ⟨_, rfl⟩
        rw [← hs5] at F2
        have M3 : Mt s5 (Lc ++ [⟨oa, oc, fr⟩]) Lo := by rw [hs5]; exact M2
        have hbB := (Below.refl w5.heap.size w5).alloc (Nat.le_refl _) (.cells #[.slice oa fr.length oc] 30)
        have F3 := F2.below hbB
        have okE : EV.ok w (w5.alloc (.cells #[.slice oa fr.length oc] 30)) gl ⟨oa, oc, fr⟩ := ⟨HV.out.seg.below (B := w.heap.size) HV.out.seg.lt F3.at'.bel, HV.out.h256, fun x hx e => by
          rcases HV.out.seg.lt with h1 | ⟨b', o', e', hb'⟩
          · rw [toI_len] at h1; exact absurd (List.eq_nil_of_length_eq_zero h1) hx
          · have e2 : some ⟨b', o', none⟩ = some x := e'.symm.trans e
            have := Option.some.inj e2
            subst this
            exact .inl hb'⟩
        have cy : (w5.alloc (.cells #[.slice oa fr.length oc] 30)).cell? ⟨w5.heap.size, 0, none⟩ = some (.slice oa fr.length oc) := World.cell?_alloc_at _ _ _ _ rfl
        have hq3 := F3.qc
        have hb3 := F3.at'.bel.size
        clear Q1 hp5' F1 c4 M2 hs5 he hO hbB F2 hk5 hM
        go_wp2_with (first | (go_at_call 11; refine (num_any _ _).mono ?_; rintro e w9 ⟨rfl, rfl⟩) | (at_builtin; refine append_queue rfl (.tmp 75) (.tmp 78) rfl rfl hq3 (.slice oa fr.length oc) rfl w5.heap.size rfl cy (by rw [List.length_map]; exact hlc') hb3 ?_))
        intro v6 w6 hq6 hk6 hv6
        have F4 := F3.came ⟨oa, oc, fr⟩ okE hq6 hk6 (fun q hq => (hv6 q hq).imp id (fun h => by simpa using h))
        clear hq6 hk6 hv6 F3 okE cy hq3 hb3 c5
        go_wp2
        go_roundw
        case rel => exact ⟨k + 1, s5, _, Lo, by omega, by go_num, F4, M3⟩
        case measure => simp [intOf]; omega
    have n2 : (kd == 2) = false := by simpa using k2
    by_cases k3 : kd = 3
    · subst k3
      have Q1 : Hid _ := poll_t F1.at'.port F1.at'.inv
      go_wp2_with fail
      clear e0 e1 e2 e3 e4 n2 k2 c4
      refine Calls.mono Q1.out ?_
      rintro e w5 (⟨h0, rfl, rfl⟩ | ⟨m, i5, b5, rest5, hm, hx5, hi5, rfl, hbb5, hp5'⟩)
      · have hl0 : Lc = [] := List.eq_nil_of_length_eq_zero (by rw [hM.clen F1.at'.inv]; exact h0)
        subst hl0
        clear Q1 h0
        go_wp2
        go_roundw
        case rel => exact ⟨k + 1, s, [], Lo, by omega, by go_num, F1, hM⟩
        case measure => simp [intOf]; omega
      · have hcl := hM.clen F1.at'.inv
        cases Lc with
        | nil => simp at hcl; omega
        | cons e Lc =>
          have F2 := F1.played hp5'
          obtain ⟨M2, hfr⟩ := hM.poll (b := b5) hm hx5
          obtain ⟨g5, kk5, cap5, ev5, hcap5, hcap5', cell5, qt5⟩ := F2.qc.first
          have h4 : (s.polled i5 b5 rest5 m).pl i5 = 4 := updF_same s.pl i5 _
          have hbb : (s.polled i5 b5 rest5 m).bb i5 = some b5 := updF_same s.bb i5 _
          have hfr2 : frS (s.polled i5 b5 rest5 m) i5 = e.fr := hfr
          have hln2 : (s.polled i5 b5 rest5 m).ln i5 = s.ln i5 := rfl
          have hi6 : i5 < (s.polled i5 b5 rest5 m).pool := hi5
          obtain ⟨s5, hs5⟩ : ∃ s5, s5 = s.polled i5 b5 rest5 m := ⟨_, rfl⟩
          rw [← hs5] at F2 M2 h4 hbb hfr2 hln2 hi6
          rw [List.length_map] at ev5 hcap5'
          rw [ev5] at F2 ⊢
          have sW := frS_seg F2.at' i5 b5 hi6 hbb
          have lW := frS_len F2.at' i5 hi6
          have dW := frS_256 F2.at' i5 hi6
          rw [hfr2] at sW lW dW
          rw [← hln2, ← lW]
          have okE := F2.ec e (by simp)
          have Q2 : Hid _ := alike_any (some ⟨b5, 0, none⟩) e.a e.fr.length e.c e.fr e.fr w5 sW okE.seg dW dW
          rw [decide_eq_true rfl] at Q2
          obtain ⟨_, cell6⟩ := ctail1 F2
          have Q3 : Hid _ := send_t F2.at'.port F2.at'.inv (i5 : Int) (e.fr.length : Int)
          obtain ⟨eL, heL⟩ : ∃ eL, eL = e.fr.length := ⟨_, rfl⟩
          have HEL : Hid (e.fr.length = eL) := heL.symm
          rw [← heL] at cell6 Q2 Q3 lW ⊢
          have HLW : Hid (eL = s5.ln i5) := lW
          clear lW hln2
          clear Q1 hp5' F1 hs5 hM hm hx5 hbb5 hfr hcl ev5 cell5 hbb qt5 sW dW heL
          go_wp2_with fail
          refine Calls.mono Q2.out ?_
          rintro e' w6 ⟨rfl, rfl⟩
          clear Q2
          go_wp2_with fail
          refine Calls.mono Q3.out ?_
          rintro e' w6 ⟨rfl, ⟨hne, hb6⟩ | ⟨k6, m6, ek, em, he, _, _, _, hp6'⟩⟩
          · obtain ⟨r6, hr6⟩ : ∃ r6, r6 = sE s5 (i5 : Int) (eL : Int) := ⟨_, rfl⟩
            rw [← hr6] at hne ⊢
            have hz : (r6 == 0) = false := by simpa using hne
            have F3 := F2.below hb6
            have Q4 : Hid _ := release_z F3.at'.port F3.at'.inv i5 hi6 h4
            clear Q3 hne hb6 hr6 F2 cell6 okE
            go_wp2_with (first | (go_at_call 11; refine (num_any _ _).mono ?_; rintro e w9 ⟨rfl, rfl⟩))
            refine Calls.mono Q4.out ?_
            rintro e' w7 ⟨rfl, hp7⟩
            have F4 := F3.played hp7
            have M4 := M2.same (s' := { s5 with pl := updF s5.pl i5 1, fr := s5.fr ++ [i5] }) rfl rfl (fun _ => rfl)
            obtain ⟨F5, _⟩ := ctail1 F4
            clear Q4 hp7 F3 F4 M2
            go_wp2_with (first | (go_at_call 11; refine (num_any _ _).mono ?_; rintro e w9 ⟨rfl, rfl⟩))
            exact ⟨⟨k + 1, _, Lc, Lo, by omega, by go_num, F5, M4⟩, by simp [intOf]; omega⟩
          · rw [he]
            have ek' : k6 = i5 := by omega
            have em' : m6 = s5.ln i5 := by have := HLW.out; omega
            subst ek'
            rw [em'] at hp6'
            have F3 := F2.played hp6'
            have M3 := M2.send k6 e hfr2
            obtain ⟨s6, hs6⟩ : ∃ s6, s6 = ({ s5 with pl := updF s5.pl k6 5, ln := updF s5.ln k6 (s5.ln k6), tx := s5.tx ++ [k6] } : PS) := ⟨_, rfl⟩
            rw [← hs6] at F3 M3
            obtain ⟨_, cell7⟩ := ctail1 F3
            rw [HEL.out] at cell7
            have hbB := (Below.refl w6.heap.size w6).alloc (Nat.le_refl _) (.cells #[.slice e.a eL e.c] 30)
            have F4 := F3.below hbB
            have okE4 := F4.ec e (by simp)
            have cy : (w6.alloc (.cells #[.slice e.a eL e.c] 30)).cell? ⟨w6.heap.size, 0, none⟩ = some (.slice e.a eL e.c) := World.cell?_alloc_at _ _ _ _ rfl
            have hq4 := F4.qo
            have hb4 := F4.at'.bel.size
            clear Q3 hp6' F2 M2 hs6 he ek em em' cell6 okE hbB F3
            go_wp2_with (first | (go_at_call 11; refine (num_any _ _).mono ?_; rintro e w9 ⟨rfl, rfl⟩) | (at_builtin; refine append_queue rfl (.tmp 108) (.tmp 112) rfl rfl hq4 (.slice e.a eL e.c) rfl w6.heap.size rfl cy (by rw [List.length_map]; exact hlo') hb4 ?_))
            intro v8 w8 hq8 hk8 hv8
            have hq9 : Qu w8 w.heap.size v8 (Lo.map EV.v ++ [e.v]) := by
              have e1 : e.v = .slice e.a eL e.c := by show Value.slice e.a e.fr.length e.c = _; rw [HEL.out]
              rw [e1]; exact hq8
            have F5 := F4.out e okE4 hq9 hk8 (fun q hq => (hv8 q hq).imp id (fun h => by simpa using h))
            obtain ⟨F6, _⟩ := ctail1 F5
            clear hq8 hk8 hv8 hq9 F4 F5 okE4 cy hq4 hb4 cell7
            go_wp2
            exact ⟨⟨k + 1, _, Lc, _, by omega, by go_num, F6, M3⟩, by simp [intOf]; omega⟩
    have n3 : (kd == 3) = false := by simpa using k3
    by_cases k8 : kd = 8
    · subst k8
      have Q1 : Hid _ := drain_t F1.at'.port F1.at'.inv
      go_wp2_with fail
      clear e0 e1 e2 e3 e4 n2 k2 n3 k3 c4
      refine Calls.mono Q1.out ?_
      rintro e w5 (⟨h0, rfl, rfl⟩ | ⟨i5, g5, b5, rest5, hx5, hi5, rfl, hrow5, _, hbb5, hp5'⟩)
      · have hl0 : Lo = [] := List.eq_nil_of_length_eq_zero (by rw [hM.olen, h0]; rfl)
        subst hl0
        clear Q1 h0
        go_wp2
        go_roundw
        case rel => exact ⟨k + 1, s, Lc, [], by omega, by go_num, F1, hM⟩
        case measure => simp [intOf]; omega
      · cases Lo with
        | nil => have := hM.olen; rw [hx5] at this; simp at this
        | cons e Lo =>
          have F2 := F1.played hp5'
          obtain ⟨M2, hfr⟩ := hM.drain (b := b5) hx5
          obtain ⟨g6, kk6, cap6, ev6, hcap6, hcap6', cdrop, qdrop⟩ := F2.qo.first
          clear cdrop qdrop
          rw [List.length_map] at ev6 hcap6'
          rw [ev6] at F2 ⊢
          obtain ⟨F3, cell6⟩ := otail1 F2
          have lW : e.fr.length = s.ln i5 := by rw [← hfr]; exact frS_len F1.at' i5 hi5
          have dW : ∀ x ∈ e.fr, x < 256 := by rw [← hfr]; exact frS_256 F1.at' i5 hi5
          have sW : Seg .u8 w5 (some ⟨g5, 0, none⟩) (toI e.fr) := by
            obtain ⟨aa, cc', e1, sg, _⟩ := owns_seg hrow5
            have e2 : some ⟨g5, 0, none⟩ = aa := (Value.slice.inj e1).1
            rw [e2, ← hfr]
            exact sg
          have okE := F2.eo e (by simp)
          have Q2 : Hid _ := alike_any (some ⟨g5, 0, none⟩) e.a e.fr.length e.c e.fr e.fr w5 sW okE.seg dW dW
          rw [decide_eq_true rfl] at Q2
          rw [← lW]
          obtain ⟨eL, heL⟩ : ∃ eL, eL = e.fr.length := ⟨_, rfl⟩
          rw [← heL] at cell6 Q2 ⊢
          clear Q1 hp5' F1 F2 hM hx5 hbb5 hfr ev6 sW dW heL lW hrow5 okE
          go_wp2_with fail
          refine Calls.mono Q2.out ?_
          rintro e' w6 ⟨rfl, rfl⟩
          clear Q2
          go_wp2
          exact ⟨⟨k + 1, _, Lc, Lo, by omega, by go_num, F3, M2⟩, by simp [intOf]; omega⟩
    have n8 : (kd == 8) = false := by simpa using k8
    by_cases k1 : kd = 1
    · subst k1
      have Q1 : Hid _ := refill_t F1.at'.port F1.at'.inv n1
      go_wp2_with fail
      clear e0 e1 e2 e3 e4 n2 k2 n3 k3 n8 k8 c4
      refine Calls.mono Q1.out ?_
      rintro e w5 ⟨k5, _, rfl, hp5'⟩
      have F2 := F1.played hp5'
      have M2 := hM.refill F1.at'.inv k5
      clear Q1 hp5' F1 hM
      go_wp2
      go_roundw
      case rel => exact ⟨k + 1, _, Lc, Lo, by omega, by go_num, F2, M2⟩
      case measure => simp [intOf]; omega
    · have n1' : (kd == 1) = false := by simpa using k1
      clear k1 k2 k3 k8 c4
      go_wp2
      go_roundw
      case rel => exact ⟨k + 1, s, Lc, Lo, by omega, by go_num, F1, hM⟩
      case measure => simp [intOf]; omega
end Go.Proofs.Ytaicmpkgcppplaa.ringFifo
