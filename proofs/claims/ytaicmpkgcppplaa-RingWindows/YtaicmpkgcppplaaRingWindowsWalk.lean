/-
  The walk of RingWindows: it answers true, whatever it is handed, and writes nothing that was there.
-/
import Derived.Test.YtaicmpkgcppplaaRingPut
import Derived.Deep.CutBlock
namespace Go.Proofs.Ytaicmpkgcppplaa.ringWindows
open Go.RowKit

/-- the buffer's bytes are d -/
def withDa (s : PS) (d : List Nat) : PS := { s with da := updF s.da 0 d }
theorem updF_twice {α : Type} (f : Nat → α) (i : Nat) (x y : α) : updF (updF f i x) i y = updF f i y := by
  funext j; unfold updF; split <;> rfl
theorem withDa_da (s : PS) (d : List Nat) : (withDa s d).da 0 = d := updF_same s.da 0 d
theorem withDa_next (s : PS) (d e : List Nat) : ({ withDa s d with da := updF (withDa s d).da 0 e } : PS) = withDa s e := by
  simp only [withDa, updF_twice]
theorem withDa_self (s : PS) : withDa s (s.da 0) = s := by simp only [withDa, updF_id]
/-- the window that Poll answered, and the buffer, in memory -/
theorem At.cells {w0 wr : World} {P gb gf gr gt p sz : Nat} {s : PS} (h : At w0 wr P gb gf gr gt p sz s) (b : Nat) (hi : 0 < s.pool) (hb : s.bb 0 = some b) (j x : Nat) (hj : (s.da 0)[j]? = some x) : wr.cell? ⟨b, j, none⟩ = some (.int .u8 (x : Int)) := by
  have hr := h.port.row 0 b hi hb
  have hjl : j < (s.da 0).length := (List.getElem?_eq_some_iff.1 hj).1
  rw [hr.cellAt j (by have := h.port.dl 0 hi; omega)]
  simp [toI, hj]
theorem At.seg {w0 wr : World} {P gb gf gr gt p sz : Nat} {s : PS} (h : At w0 wr P gb gf gr gt p sz s) (b : Nat) (hi : 0 < s.pool) (hb : s.bb 0 = some b) (n : Nat) (hn : n ≤ (s.da 0).length) : Seg .u8 wr (some ⟨b, 0, none⟩) (toI ((s.da 0).take n)) := by
  refine .inr ⟨b, 0, rfl, fun i hi' => ?_⟩
  rw [toI_len, List.length_take] at hi'
  have hil : i < (s.da 0).length := by omega
  rw [Nat.zero_add, At.cells h b hi hb i (s.da 0)[i] (by simp [hil]), toI_getD]
  have : i < n := by omega
  simp [List.getD, this, hil]

theorem after_append {w0 wr w15 : World} {P gb gf gr gt p sz : Nat} {s : PS} {gx gw j n c base : Nat} {e : TypeId} {xs : List Value} {A B : Prop} (h : At w0 wr P gb gf gr gt p sz s) (hgx5 : ∀ q, PB P gb gf gr gt s q → q ≠ gx) (hgx : w0.heap.size ≤ gx)
    (hg : (wr.grownBy w15 none ∧ A) ∨ (wr.grownBy w15 (Value.slice (some ⟨gx, 0, none⟩) j j).ownBlock ∧ B)) (hw : wr.ownsRow base e 1 (.slice (some ⟨gw, 0, none⟩) n c) n xs) (hne : gx ≠ gw) :
    At w0 w15 P gb gf gr gt p sz s ∧ w15.ownsRow base e 1 (.slice (some ⟨gw, 0, none⟩) n c) n xs := by
  have hc : Ch (fun q => q = gx) wr w15 := by
    rcases hg with ⟨g1, _⟩ | ⟨g1, _⟩
    · exact (Ch.ofGrown g1).mono (fun _ _ e => by cases e)
    · exact (Ch.ofGrown g1).mono (fun x _ e => (Option.some.inj e).symm)
  refine ⟨⟨h.port.ch hc (fun q hq e => hgx5 q hq e), h.inv, h.pool, h.size, h.bel.trans (hc.below (fun q e => e ▸ hgx) h.bel.size), h.blk⟩, hc.owns hw (fun q hq e => hne ?_)⟩
  have h1 : gw = q := Option.some.inj hq
  rw [h1]; exact e.symm
theorem part_seg {w : World} {g n c base k : Nat} {l m : List Nat} (h : w.ownsRow base 5 1 (.slice (some ⟨g, 0, none⟩) n c) n ((toI (l ++ m)).map (Value.int .u8))) (hk : l.length = k) : Seg .u8 w (some ⟨g, 0, none⟩) (toI l) := by
  obtain ⟨aa, cc, e1, sg, _⟩ := owns_seg h
  have e2 : some ⟨g, 0, none⟩ = aa := (Value.slice.inj e1).1
  have := sg.part0 k (by rw [toI_len, List.length_append]; omega)
  rw [← e2, toI_take, List.take_append_of_le_length (by omega), ← hk, List.take_length] at this
  exact this

set_option maxRecDepth 100000 in
set_option maxHeartbeats 6400000 in
theorem walk (n : Int) (a : Option Addr) (len cap : Nat) (zs : List Int) (a2 : Option Addr) (len2 cap2 : Nat) (zs2 : List Int) (w : World) (_hnw : (Lit.int .i64 n).wf = true) (hr1 : IsRow .u8 w a len cap zs) (hr2 : IsRow .u8 w a2 len2 cap2 zs2) :
    Calls Try.prog 4 #[.int .i64 n, .slice a len cap, .slice a2 len2 cap2] w fun e w' => e = .returned (.bool true) ∧ Below w.heap.size w w' := by
  obtain ⟨i0, hi, hz0, hz1, hz2⟩ := info_parts Try.infoByte
  obtain ⟨B0, hB0, sB0, _, hcB0, hB256'⟩ := hr1.bytes
  obtain ⟨M, hM, sM, _, hcM, hM256⟩ := hr2.bytes
  have HM : Hid (M.length = len2) := hM
  have HMS : Hid (Seg .u8 w a2 (toI M) ∧ ∀ x ∈ M, x < 256) := ⟨sM, hM256⟩
  clear hr1 hr2 sM hM256 hM _hnw
  go_enter Try.func4, Try.ntmps4
  go_wp2_with fail
  refine (New_yes w 1 2 2 64 (by decide) (by decide) (by decide) (by decide) (by decide) (by decide) (by decide) (by decide)).mono ?_
  rintro e w1 ⟨P, gb, gf, gr, gt, rfl, hp, hb, hq⟩
  have A0 : At w w1 P gb gf gr gt 2 64 (newK 1 2 2 64 2) := ⟨hp, newK_inv 1 2 2 64, rfl, rfl, hb, hq⟩
  have Q1 : Hid _ := refill_t A0.port A0.inv 1
  clear hp hb hq
  go_wp2_with (first | (go_at_call 11; refine (num_any _ _).mono ?_; rintro e w9 ⟨rfl, rfl⟩))
  refine Calls.mono Q1.out ?_
  rintro e w2 ⟨k1, hk1, rfl, hp2⟩
  have hk1' : k1 = 1 := by simpa [newK] using hk1
  subst hk1'
  have A1 := A0.next hp2
  obtain ⟨s1, hs1⟩ : ∃ s1, s1 = (newK 1 2 2 64 2).refilled 1 := ⟨_, rfl⟩
  have p1 : s1.rx = [0] := by rw [hs1]; rfl
  have p2 : s1.filled = 0 := by rw [hs1]; rfl
  have p3 : s1.tx = [] := by rw [hs1]; rfl
  have p4 : s1.txn = 2 := by rw [hs1]; rfl
  have p5 : s1.pool = 2 := A1.pool ▸ by rw [hs1]
  rw [← hs1] at A1
  clear Q1 hp2 A0 hk1 hs1
  go_upto_if 42 with fail
  go_cut [1] (fun v wx => ∃ (fb : List Nat) (cb : Nat), v = .slice a fb.length cb ∧ fb.length ≤ 64 ∧ Seg .u8 w a (toI fb) ∧ (∀ x ∈ fb, x < 256) ∧ wx = w2)
  case first =>
    by_cases h64 : len ≤ 64
    · have d1 : decide ((64 : Int) < (len : Int)) = false := decide_eq_false (by omega)
      go_wp2
      go_meet
      exact ⟨B0, cap, by rw [hB0], by omega, sB0, hB256', rfl⟩
    · have d1 : decide ((64 : Int) < (len : Int)) = true := decide_eq_true (by omega)
      have s64 := sB0.part0 64 (by rw [toI_len]; omega)
      rw [toI_take] at s64
      have hl64 : (B0.take 64).length = 64 := by rw [List.length_take]; omega
      rcases sB0 with h0 | ⟨bb, boff, rfl, _⟩
      · have : B0.length = 0 := by rw [← toI_len, h0]; rfl
        omega
      go_wp2
      go_meet
      exact ⟨B0.take 64, cap, by rw [hl64], by omega, s64, fun x hx => hB256' x (List.mem_of_mem_take hx), rfl⟩
  case rest =>
  obtain ⟨FB, cb, rfl, hF64, sFB, hF256, rfl⟩ := hcut
  clear sB0 hB0 hB256'
  have sFB1 : Seg .u8 wc a (toI FB) := sFB.below (B := w.heap.size) sFB.lt A1.bel
  have Q2 : Hid _ := arrive_t A1.port A1.inv a cb FB sFB1 hF256 (A1.apart sFB)
  have ha0 : aE s1 FB.length = 0 := by
    have h1 := A1.size
    unfold aE
    rw [if_neg (by omega), if_neg (by omega), if_neg (by rw [p2, p1]; simp)]
  rw [ha0] at Q2
  have HFS : Hid (Seg .u8 w a (toI FB) ∧ ∀ x ∈ FB, x < 256) := ⟨sFB, hF256⟩
  obtain ⟨L, hL⟩ : ∃ L, L = FB.length := ⟨_, rfl⟩
  have HL : Hid (FB.length = L) := hL.symm
  rw [← hL] at hF64 Q2 ⊢
  clear hL sFB hF256 sFB1 ha0
  go_wp2_with fail
  refine Calls.mono Q2.out ?_
  rintro e w3 ⟨rfl, ⟨hne, _⟩ | ⟨_, hk, b, hp3⟩⟩
  · exact absurd rfl hne
  have A2 := A1.next hp3
  have e0 : s1.rx[s1.filled] = 0 := by simp [p1, p2]
  rw [e0] at A2
  have q1 : (s1.arrived 0 b FB).rx = [0] := p1
  have q2 : (s1.arrived 0 b FB).filled = 0 + 1 := by show s1.filled + 1 = _; rw [p2]
  have q3 : (s1.arrived 0 b FB).ln 0 = L := by show updF s1.ln 0 FB.length 0 = _; rw [updF_same, HL.out]
  have q4 : (s1.arrived 0 b FB).bb 0 = some b := updF_same s1.bb 0 _
  have q5 : (s1.arrived 0 b FB).da 0 = FB ++ (s1.da 0).drop FB.length := updF_same s1.da 0 _
  have q6 : (s1.arrived 0 b FB).tx = [] := p3
  have q7 : (s1.arrived 0 b FB).txn = 2 := p4
  obtain ⟨s2, hs2⟩ : ∃ s2, s2 = s1.arrived 0 b FB := ⟨_, rfl⟩
  rw [← hs2] at A2 q1 q2 q3 q4 q5 q6 q7
  have q8 : (s2.da 0).take L = FB := by rw [q5, ← HL.out, List.take_left]
  clear Q2 hp3 A1 e0 p1 p2 p3 p4 p5 hk hs2 q5
  have Q3 : Hid _ := poll_t A2.port A2.inv
  go_wp2_with (first | (go_at_call 11; refine (num_any _ _).mono ?_; rintro e w9 ⟨rfl, rfl⟩))
  refine Calls.mono Q3.out ?_
  rintro e w4 (⟨h0, _⟩ | ⟨m, i1, b1, rest, hm, hx, hi1, rfl, hbb, hp4⟩)
  · omega
  have ei : i1 = 0 ∧ rest = [] := by rw [q1] at hx; simp at hx; exact ⟨hx.1.symm, hx.2⟩
  obtain ⟨rfl, rfl⟩ := ei
  have eb : b1 = b := by
    rcases hbb with h | ⟨h, _⟩
    · rw [q4] at h; simpa using h.symm
    · rw [q4] at h; cases h
  subst eb
  have A3 := A2.next hp4
  rw [q3]
  have r1 : (s2.polled 0 b1 [] m).pl 0 = 4 := updF_same s2.pl 0 _
  have r2 : (s2.polled 0 b1 [] m).bb 0 = some b1 := updF_same s2.bb 0 _
  have r3 : (s2.polled 0 b1 [] m).da = s2.da := rfl
  have r4 : (s2.polled 0 b1 [] m).tx = [] := q6
  have r5 : (s2.polled 0 b1 [] m).txn = 2 := q7
  obtain ⟨s3, hs3⟩ : ∃ s3, s3 = s2.polled 0 b1 [] m := ⟨_, rfl⟩
  rw [← hs3] at A3 r1 r2 r3 r4 r5
  have r6 : (s3.da 0).take L = FB := by rw [r3]; exact q8
  clear Q3 hp4 A2 hx hm hbb hs3 q1 q2 q3 q4 q6 q7 q8 r3 hi1
  have hp0 : 0 < s3.pool := by have := A3.pool; omega
  have Q4 : Hid _ := buffer_t A3.port A3.inv ((0 : Nat) : Int)
  go_wp2_with fail
  refine Calls.mono Q4.out ?_
  rintro e w5 (⟨hne, _⟩ | ⟨k5, b2, ek, _, _, _, rfl, hbb, hp5⟩)
  · exact absurd (hE_held hp0 r1) hne
  have ek' : k5 = 0 := by omega
  subst ek'
  have eb : b2 = b1 := by
    rcases hbb with h | ⟨h, _⟩
    · rw [r2] at h; simpa using h.symm
    · rw [r2] at h; cases h
  subst eb
  have hsame : ({ s3 with bb := updF s3.bb 0 (some b2) } : PS) = s3 := by rw [← r2, updF_id]
  have A4 := A3.next hp5
  rw [hsame] at A4
  have hsz3 : s3.size = 64 := A3.size
  rw [hsz3]
  have hdl := A4.port.dl 0 hp0
  have sW := At.seg A4 b2 hp0 r2 L (by omega)
  rw [r6] at sW
  have sF5 : Seg .u8 w5 a (toI FB) := HFS.out.1.below (B := w.heap.size) HFS.out.1.lt A4.bel
  have Q5 : Hid _ := alike_any (some ⟨b2, 0, none⟩) a L cb FB FB w5 sW sF5 HFS.out.2 HFS.out.2
  rw [decide_eq_true rfl, HL.out] at Q5
  clear Q4 hp5 A3 hbb ek hsame sF5
  go_wp2_with (first | (go_at_call 11; refine (num_any _ _).mono ?_; rintro e w9 ⟨rfl, rfl⟩))
  refine Calls.mono Q5.out ?_
  rintro e w6 ⟨rfl, rfl⟩
  clear Q5 sW r6 HFS
  go_wp2
  obtain ⟨D0, hD0⟩ : ∃ D0, D0 = s3.da 0 := ⟨_, rfl⟩
  have hD0l : D0.length = 64 := by rw [hD0]; omega
  have A5 : At w w5 P gb gf gr gt 2 64 (withDa s3 (ovr id D0 0)) := by rw [ovr_zero, hD0, withDa_self]; exact A4
  clear A4 hdl hD0
  go_loopw [14] (fun ix wq => ∃ j : Nat, j ≤ 64 ∧ ix = .int .i64 j ∧ At w wq P gb gf gr gt 2 64 (withDa s3 (ovr id D0 j))) (fun ix _ => 64 - (intOf ix).toNat)
  case atStart => exact ⟨0, by omega, rfl, A5⟩
  case round =>
    obtain ⟨j, hj, rfl, hA⟩ := hrel
    clear A5
    by_cases hjl : j < 64
    case pos =>
      obtain ⟨A6, ⟨z, _, hcz⟩, hfz⟩ := hA.write 0 b2 hp0 r2 j j hjl (by omega)
      rw [withDa_next, withDa_da, show (ovr id D0 j).set j j = ovr id D0 (j + 1) from ovr_set id D0 j (by omega)] at A6
      have wj : IntKind.u8.wrap (j : Int) = (j : Int) := by simp [IntKind.wrap, IntKind.bits, IntKind.signed]; omega
      have HF : Hid _ := A6
      clear A6 hA
      go_wp2
      go_roundw
      case rel => exact ⟨j + 1, by omega, by go_num, HF.out⟩
      case measure => simp [intOf]; omega
    obtain rfl : j = 64 := by omega
    obtain ⟨D1, hD1⟩ : ∃ D1, D1 = ovr id D0 64 := ⟨_, rfl⟩
    have hD1l : D1.length = 64 := by rw [hD1, ovr_len _ _ _ (by omega)]; exact hD0l
    have hD1a : ∀ i, i < 64 → D1[i]? = some i := fun i hi => by rw [hD1]; exact ovr_lo id D0 64 i hi
    rw [← hD1] at hA
    clear hD1 hjl hj
    have hAa := hA.below ((Below.refl _ _).alloc (Nat.le_refl _) (.cells #[.int .u8 201, .int .u8 202, .int .u8 203] 5))
    have sg := At.seg hAa b2 hp0 r2 L (by rw [withDa_da]; omega)
    rw [withDa_da] at sg
    go_wp2_with (first | (at_builtin; refine wpList_append_full rfl (.tmp 96) (.tmp 97) 30 rfl 5 i0 (.int .u8 0) 1 Try.underlying30 hi hz0 hz1 hz2 rfl .u8 ⟨b2, 0, none⟩ L (toI (D1.take L)) rfl (by rw [toI_len, List.length_take]; omega) sg ⟨wr.heap.size, 0, none⟩ 3 3 [.int .u8 201, .int .u8 202, .int .u8 203] rfl rfl (news3 _ _ _ _ _) (by omega) (by unfold maxLen; omega) (by omega) ?_))
    intro v7 w7 ho7 hg7
    have A7 := hAa.below (show Below _ _ w7 from (Below.refl _ _).grown hg7 (Nat.le_refl _) (by intro k hk; cases hk))
    obtain ⟨ag, cg, rfl⟩ := owns_shape ho7
    clear ho7 hg7 hAa sg hA
    have hAb := A7.below ((Below.refl _ _).alloc (Nat.le_refl _) (.cells #[.int .u8 201, .int .u8 202, .int .u8 203] 5))
    have sh := At.seg hAb b2 hp0 r2 64 (by rw [withDa_da]; omega)
    rw [withDa_da] at sh
    go_wp2_with (first | (at_builtin; refine wpList_append_full rfl (.tmp 99) (.tmp 100) 30 rfl 5 i0 (.int .u8 0) 1 Try.underlying30 hi hz0 hz1 hz2 rfl .u8 ⟨b2, 0, none⟩ 64 (toI (D1.take 64)) rfl (by rw [toI_len, List.length_take]; omega) sh ⟨w7.heap.size, 0, none⟩ 3 3 [.int .u8 201, .int .u8 202, .int .u8 203] rfl rfl (news3 _ _ _ _ _) (by omega) (by unfold maxLen; omega) (by omega) ?_))
    intro v8 w8 ho8 hg8
    have A8 := hAb.below (show Below _ _ w8 from (Below.refl _ _).grown hg8 (Nat.le_refl _) (by intro k hk; cases hk))
    obtain ⟨ah, ch, rfl⟩ := owns_shape ho8
    clear ho8 hg8 hAb sh A7
    go_wp2
    go_loop [17] (fun ix => ∃ j : Nat, j ≤ 64 ∧ ix = .int .i64 j) (fun ix => 64 - (intOf ix).toNat)
    case atStart => exact ⟨0, by omega, rfl⟩
    case round =>
      obtain ⟨j, hj, rfl⟩ := hrel
      by_cases hjl : j < 64
      case pos =>
        have cj := At.cells A8 b2 hp0 r2 j j (by rw [withDa_da]; exact hD1a j hjl)
        have wj : IntKind.u8.wrap (j : Int) = (j : Int) := by simp [IntKind.wrap, IntKind.bits, IntKind.signed]; omega
        have ej : ((j : Int) != (j : Int)) = false := by simp
        go_wp2
        go_round
        case rel => exact ⟨j + 1, by omega, by go_num⟩
        case measure => simp [intOf]; omega
      obtain rfl : j = 64 := by omega
      clear hj hjl hD1a
      have A9 : At w w8 P gb gf gr gt 2 64 (withDa s3 (ovr (fun i => M.getD i 0) D1 0)) := by rw [ovr_zero]; exact A8
      clear A8
      go_upto_block 4 with fail
      go_cut [18] (fun _ wx => ∃ j : Nat, j ≤ 64 ∧ j ≤ len2 ∧ (j = len2 ∨ j = 64) ∧ At w wx P gb gf gr gt 2 64 (withDa s3 (ovr (fun i => M.getD i 0) D1 j)))
      case first =>
        go_wp2_with fail
        go_loopw [18] (fun ix wq => ∃ j : Nat, j ≤ 64 ∧ j ≤ len2 ∧ ix = .int .i64 j ∧ At w wq P gb gf gr gt 2 64 (withDa s3 (ovr (fun i => M.getD i 0) D1 j))) (fun ix _ => 64 - (intOf ix).toNat)
        case atStart => exact ⟨0, by omega, by omega, rfl, A9⟩
        case round =>
          obtain ⟨j, hj, hj2, rfl, hA⟩ := hrel
          clear A9
          by_cases h1 : j < len2
          · have g1 : decide ((j : Int) < (len2 : Int)) = true := decide_eq_true (by omega)
            by_cases h2 : j < 64
            · have g2 : decide ((j : Int) < 64) = true := decide_eq_true (by omega)
              have hMl := HM.out
              have hx256 : M.getD j 0 < 256 := by
                have hjM : j < M.length := by omega
                have := HMS.out.2 M[j] (List.getElem_mem hjM)
                simpa [List.getD, hjM] using this
              obtain ⟨A10, ⟨z, _, hcz⟩, hfz⟩ := hA.write 0 b2 hp0 r2 j (M.getD j 0) h2 hx256
              rw [withDa_next, withDa_da, show (ovr (fun i => M.getD i 0) D1 j).set j (M.getD j 0) = ovr (fun i => M.getD i 0) D1 (j + 1) from ovr_set _ D1 j (by omega)] at A10
              have sM1 : Seg .u8 wr a2 (toI M) := HMS.out.1.below (B := w.heap.size) HMS.out.1.lt hA.bel
              rcases sM1 with h0 | ⟨mb, moff, rfl, hmc⟩
              · have : M.length = 0 := by rw [← toI_len, h0]; rfl
                omega
              have cm := hmc j (by rw [toI_len]; omega)
              rw [toI_getD] at cm
              obtain ⟨x, hx⟩ : ∃ x, x = M.getD j 0 := ⟨_, rfl⟩
              rw [← hx] at cm A10
              have HF : Hid _ := A10
              clear A10 hA hmc hx hMl hx256
              go_wp2
              go_roundw
              case rel => exact ⟨j + 1, by omega, by omega, by go_num, HF.out⟩
              case measure => simp [intOf]; omega
            · have g2 : decide ((j : Int) < 64) = false := decide_eq_false (by omega)
              go_wp2
              go_meet
              exact ⟨j, hj, hj2, .inr (by omega), hA⟩
          · have g1 : decide ((j : Int) < (len2 : Int)) = false := decide_eq_false (by omega)
            go_wp2
            go_meet
            exact ⟨j, hj, hj2, .inl (by omega), hA⟩
      case rest =>
      obtain ⟨j3, hj3, hj32, hor, hA3⟩ := hcut
      obtain ⟨wz, rfl⟩ : ∃ wz, wz = wc := ⟨_, rfl⟩
      obtain ⟨D2, hD2⟩ : ∃ D2, D2 = ovr (fun i => M.getD i 0) D1 j3 := ⟨_, rfl⟩
      have hD2l : D2.length = 64 := by rw [hD2, ovr_len _ _ _ (by omega)]; exact hD1l
      have hD2a : ∀ i, i < j3 → D2[i]? = some (M.getD i 0) := fun i hi => by rw [hD2]; exact ovr_lo _ D1 j3 i hi
      rw [← hD2] at hA3
      clear A9 hD2
      go_upto_block 6 with fail
      go_cut [19] (fun _ wx => At w wx P gb gf gr gt 2 64 (withDa s3 D2))
      case first =>
        go_wp2_with fail
        go_loopw [19] (fun ix wq => ∃ j : Nat, j ≤ L ∧ j ≤ len2 ∧ ix = .int .i64 j ∧ At w wq P gb gf gr gt 2 64 (withDa s3 D2)) (fun ix _ => L - (intOf ix).toNat)
        case atStart => exact ⟨0, by omega, by omega, rfl, hA3⟩
        case round =>
          obtain ⟨j, hj, hj2, rfl, hA⟩ := hrel
          clear hA3
          by_cases h1 : j < L
          · have g1 : decide ((j : Int) < (L : Int)) = true := decide_eq_true (by omega)
            by_cases h2 : j < len2
            · have g2 : decide ((j : Int) < (len2 : Int)) = true := decide_eq_true (by omega)
              have cj := At.cells hA b2 hp0 r2 j (M.getD j 0) (by rw [withDa_da]; exact hD2a j (by omega))
              have sM1 : Seg .u8 wr a2 (toI M) := HMS.out.1.below (B := w.heap.size) HMS.out.1.lt hA.bel
              have hMl := HM.out
              rcases sM1 with h0 | ⟨mb, moff, rfl, hmc⟩
              · have : M.length = 0 := by rw [← toI_len, h0]; rfl
                omega
              have cm := hmc j (by rw [toI_len]; omega)
              rw [toI_getD] at cm
              obtain ⟨x, hx⟩ : ∃ x, x = M.getD j 0 := ⟨_, rfl⟩
              rw [← hx] at cm cj
              have ex : ((x : Int) != (x : Int)) = false := by simp
              have HF : Hid (At w wr.drew P gb gf gr gt 2 64 (withDa s3 D2)) := hA.below (Below.refl _ _).drew
              clear hA hmc hx hMl hD2a
              go_wp2
              try go_region
              all_goals
                go_wp2
                go_roundw
                case rel => exact ⟨j + 1, by omega, by omega, by go_num, HF.out⟩
                case measure => simp [intOf]; omega
            · have g2 : decide ((j : Int) < (len2 : Int)) = false := decide_eq_false (by omega)
              go_wp2
              go_meet
              exact hA
          · have g1 : decide ((j : Int) < (L : Int)) = false := decide_eq_false (by omega)
            go_wp2
            go_meet
            exact hA
      case rest =>
      obtain ⟨wy, rfl⟩ : ∃ wy, wy = wc := ⟨_, rfl⟩
      have hA4 : At w wy P gb gf gr gt 2 64 (withDa s3 D2) := hcut
      clear hcut hA3 hD2a hor
      go_upto_region 32 with fail
      go_cut [156] (fun v wx => ∃ B : Bool, v = .bool B ∧ (B = false → 0 ≤ n ∧ n ≤ 64) ∧ wx = wy)
      case first =>
        by_cases h1 : n < 0
        · have g1 : decide (n < 0) = true := decide_eq_true h1
          go_wp2
          go_meet
          exact ⟨true, rfl, fun h => (by cases h), rfl⟩
        · have g1 : decide (n < 0) = false := decide_eq_false h1
          by_cases h2 : 64 < n
          · have g2 : decide (64 < n) = true := decide_eq_true h2
            go_wp2
            go_meet
            exact ⟨true, rfl, fun h => (by cases h), rfl⟩
          · have g2 : decide (64 < n) = false := decide_eq_false h2
            go_wp2
            go_meet
            exact ⟨false, rfl, fun _ => ⟨by omega, by omega⟩, rfl⟩
      case rest =>
      obtain ⟨B, rfl, hBn, rfl⟩ := hcut
      go_upto_if 156 with fail
      go_cut [0] (fun v wx => ∃ m : Nat, v = .int .i64 m ∧ m ≤ 64 ∧ wx = wc)
      case first =>
        cases B with
        | true =>
          go_wp2
          go_meet
          exact ⟨64, rfl, by omega, rfl⟩
        | false =>
          have := hBn rfl
          go_wp2
          go_meet
          exact ⟨n.toNat, by congr 1; omega, by omega, rfl⟩
      case rest =>
      obtain ⟨K, rfl, hK, rfl⟩ := hcut
      clear hBn
      obtain ⟨w10, rfl⟩ : ∃ w10, w10 = wc := ⟨_, rfl⟩
      have hTl : (D2.take K).length = K := by rw [List.length_take]; omega
      have hp0' : 0 < (withDa s3 D2).pool := hp0
      have r2' : (withDa s3 D2).bb 0 = some b2 := r2
      have sv := At.seg hA4 b2 hp0' r2' K (by rw [withDa_da]; omega)
      rw [withDa_da] at sv
      have Q6 : Hid _ := wide_any (some ⟨b2, 0, none⟩) 64 (D2.take K) w10 sv (by omega)
      rw [hTl] at Q6
      clear sv
      go_wp2_with fail
      refine Calls.mono Q6.out ?_
      rintro e w11 ⟨gw, cw, rfl, hw11, hb11⟩
      have A11 := hA4.below hb11
      have hgw : ∀ q, PB P gb gf gr gt (withDa s3 D2) q → q ≠ gw := fun q hq e => by
        have h1 := hA4.old q hq
        have h2 := (hw11.lt gw rfl).1
        omega
      have hse : sE (withDa s3 D2) ((0 : Nat) : Int) (K : Int) = 0 := by
        have h1 : (withDa s3 D2).size = 64 := hA4.size
        have h2 : hE (withDa s3 D2) ((0 : Nat) : Int) = 0 := hE_held hp0' r1
        have h3 : (withDa s3 D2).tx = [] := r4
        have h4 : (withDa s3 D2).txn = 2 := r5
        unfold sE
        rw [h1, h2, h3, h4, if_neg (by omega), if_pos rfl]
        simp
      have Q7 : Hid _ := send_t A11.port A11.inv ((0 : Nat) : Int) (K : Int)
      rw [hse] at Q7
      clear Q6 hA4 hb11 hse
      go_wp2_with fail
      refine Calls.mono Q7.out ?_
      rintro e w12 ⟨rfl, ⟨hne, _⟩ | ⟨k7, m7, ek, em, _, _, _, _, hp12⟩⟩
      · exact absurd rfl hne
      have ek' : k7 = 0 := by omega
      have em' : m7 = K := by omega
      subst ek' em'
      have A12 := A11.next hp12
      have hw12 := hp12.ch.owns hw11 (fun q hq e => hgw q e (by simp [Value.ownBlock] at hq; omega))
      obtain ⟨s4, hs4⟩ : ∃ s4, s4 = ({ withDa s3 D2 with pl := updF (withDa s3 D2).pl 0 5, ln := updF (withDa s3 D2).ln 0 m7, tx := (withDa s3 D2).tx ++ [0] } : PS) := ⟨_, rfl⟩
      have t1 : s4.tx = [0] := by rw [hs4]; show s3.tx ++ [0] = _; rw [r4]; rfl
      have t2 : s4.ln 0 = m7 := by rw [hs4]; exact updF_same (withDa s3 D2).ln 0 m7
      have t3 : s4.da 0 = D2 := by rw [hs4]; exact withDa_da s3 D2
      have t4 : s4.bb 0 = some b2 := by rw [hs4]; exact r2
      have hgw4 : ∀ q, PB P gb gf gr gt s4 q → q ≠ gw := by rw [hs4]; exact hgw
      rw [← hs4] at A12
      have Q8 : Hid _ := drain_t A12.port A12.inv
      have e3 : ((L : Int) + 3 != (L : Int) + 3) = false := by simp
      have wL : IntKind.i64.wrap ((L : Int) + 3) = (L : Int) + 3 := i64_small _ (by omega) (by omega)
      clear Q7 hp12 A11 hw11 hgw hs4 ek em
      go_wp2_with (first | (go_at_call 11; refine (num_any _ _).mono ?_; rintro e w9 ⟨rfl, rfl⟩))
      refine Calls.mono Q8.out ?_
      rintro e w13 (⟨h0, _⟩ | ⟨i8, gx, b8, rest8, hx8, hi8, rfl, hrow8, hgb8, hbb8, hp13⟩)
      · rw [t1] at h0; cases h0
      have ei : i8 = 0 := by rw [t1] at hx8; simp at hx8; exact hx8.1.symm
      subst ei
      have A13 := A12.next hp13
      rw [t2, t3] at hrow8
      rw [t2]
      have eb8 : b8 = b2 := by
        rcases hbb8 with h | ⟨h, _⟩
        · rw [t4] at h; simpa using h.symm
        · rw [t4] at h; cases h
      subst eb8
      have hw13 := hp13.ch.owns hw12 (fun q hq e => hgw4 q e (by simp [Value.ownBlock] at hq; omega))
      have hgxl : w12.heap.size ≤ gx := (hrow8.lt gx rfl).1
      have hgwl : gw < w12.heap.size := (hw12.lt gw rfl).2
      have hgxw : gx ≠ gw := by omega
      have A4s : w.heap.size ≤ gx := Nat.le_trans A12.bel.size hgxl
      obtain ⟨s5, hs5⟩ : ∃ s5, s5 = s4.drained 0 b8 rest8 := ⟨_, rfl⟩
      have u3 : s5.da 0 = D2 := by rw [hs5]; exact t3
      have u4 : s5.bb 0 = some b8 := by rw [hs5]; exact updF_same s4.bb 0 _
      have u5 : 0 < s5.pool := by have := A13.pool; rw [← hs5] at this; omega
      have hgx5 : ∀ q, PB P gb gf gr gt s5 q → q ≠ gx := fun q hq e => by
        rw [hs5] at hq
        have h0 : s4.bb 0 = some b8 := t4
        have : PB P gb gf gr gt s4 q ∨ w12.heap.size + gx + 1 ≤ q := PB.upd (s := s4) (s' := s4.drained 0 b8 rest8) (i := 0) (b := b8) rfl rfl (.inl h0) hi8 q hq
        rcases this with h | h
        · have := A12.old q h; omega
        · omega
      rw [← hs5] at A13
      have sx : Seg .u8 w13 (some ⟨gx, 0, none⟩) (toI (D2.take m7)) := by
        obtain ⟨aa, cc, e1, sg, _⟩ := owns_seg hrow8
        simp only [Value.slice.injEq] at e1
        rw [e1.1]
        exact sg
      have sw : Seg .u8 w13 (some ⟨gw, 0, none⟩) (toI (D2.take m7)) := by
        obtain ⟨aa, cc, e1, sg, _⟩ := owns_seg hw13
        simp only [Value.slice.injEq] at e1
        have := sg.part0 m7 (by rw [toI_len, List.length_append]; omega)
        rw [← e1.1] at this
        rw [toI_take, List.take_append_of_le_length (by omega), List.take_take, Nat.min_self] at this
        exact this
      have hD256 : ∀ x ∈ D2.take m7, x < 256 := fun x hx => A13.port.d256 0 u5 x (by rw [u3]; exact List.mem_of_mem_take hx)
      have Q9 : Hid _ := alike_any (some ⟨gx, 0, none⟩) (some ⟨gw, 0, none⟩) m7 cw (D2.take m7) (D2.take m7) w13 sx sw hD256 hD256
      rw [decide_eq_true rfl, hTl] at Q9
      have hcw : m7 + 3 ≤ cw := by
        rcases hw13.2 with ⟨h, _⟩ | ⟨_, _, _, h, _, _, h2, _⟩
        · cases h
        · simp only [Value.slice.injEq] at h; omega
      clear Q8 hp13 A12 hw12 hs5 hbb8 hx8 hgb8 hgw4 sx sw t1 t2 t3 t4 e3 wL
      go_wp2_with fail
      refine Calls.mono Q9.out ?_
      rintro e w14 ⟨rfl, rfl⟩
      have hrow9 : w13.ownsRow w12.heap.size 5 1 (.slice (some ⟨gx, 0, none⟩) m7 m7) m7 ((toI (D2.take m7)).map (Value.int .u8)) := hrow8
      clear Q9 hrow8
      go_wp2
      go_loopw [23] (fun ix wq => ∃ (j : Nat) (X : List Int), j ≤ m7 ∧ ix = .int .i64 j ∧ X.length = m7 ∧ wq.ownsRow w12.heap.size 5 1 (.slice (some ⟨gx, 0, none⟩) m7 m7) m7 (X.map (Value.int .u8)) ∧ At w wq P gb gf gr gt 2 64 s5 ∧ wq.ownsRow w10.heap.size 5 1 (.slice (some ⟨gw, 0, none⟩) (m7 + 3) cw) (m7 + 3) ((toI (D2.take m7 ++ [91, 92, 93])).map (Value.int .u8))) (fun ix _ => m7 - (intOf ix).toNat)
      case atStart => exact ⟨0, toI (D2.take m7), Nat.zero_le _, rfl, by rw [toI_len]; exact hTl, hrow9, A13, hw13⟩
      case round =>
        obtain ⟨j, X, hj, rfl, hXl, hrx, hAx, hwx⟩ := hrel
        clear A13 hw13 hrow9
        by_cases hjl : j < m7
        case pos =>
          obtain ⟨x, hx⟩ : ∃ x, X[j]? = some x := ⟨X[j]'(by omega), by simp [hXl, hjl]⟩
          have cx : wr.cell? ⟨gx, j, none⟩ = some (.int .u8 x) := by
            rw [hrx.cellAt j (by omega)]
            simp [hx]
          have fx := hrx.frozenAt j
          have kk : ∀ y : Int, Ch (fun q => q = gx) wr (wr.setCell ⟨gx, j, none⟩ (.int .u8 y)) := fun y => (Ch.refl _ wr).set _ _ rfl
          have HF : Hid (∀ y : Int, (X.set j y).length = m7 ∧ (wr.setCell ⟨gx, j, none⟩ (.int .u8 y)).ownsRow w12.heap.size 5 1 (.slice (some ⟨gx, 0, none⟩) m7 m7) m7 ((X.set j y).map (Value.int .u8)) ∧ At w (wr.setCell ⟨gx, j, none⟩ (.int .u8 y)) P gb gf gr gt 2 64 s5 ∧ (wr.setCell ⟨gx, j, none⟩ (.int .u8 y)).ownsRow w10.heap.size 5 1 (.slice (some ⟨gw, 0, none⟩) (m7 + 3) cw) (m7 + 3) ((toI (D2.take m7 ++ [91, 92, 93])).map (Value.int .u8))) := by
            intro y
            have h1 := (hrx.stored j (.int .u8 y)).1
            rw [← List.map_set] at h1
            refine ⟨by rw [List.length_set]; exact hXl, h1, ⟨hAx.port.ch (kk y) (fun q hq e => hgx5 q hq e), hAx.inv, hAx.pool, hAx.size, hAx.bel.trans ((kk y).below (fun q e => ?_) hAx.bel.size), hAx.blk⟩, (kk y).owns hwx (fun q hq e => hgxw (by simp [Value.ownBlock] at hq; omega))⟩
            have h2 := A4s
            omega
          clear hrx hAx hwx kk hx
          go_wp2
          go_roundw
          case rel =>
            obtain ⟨f1, f2, f3, f4⟩ := HF.out _
            exact ⟨j + 1, _, by omega, by go_num, f1, f2, f3, f4⟩
          case measure => simp [intOf]; omega
        obtain rfl : j = m7 := by omega
        clear hj hjl
        have hbx := (Below.refl wr.heap.size wr).alloc (Nat.le_refl _) (.cells #[.int .u8 4, .int .u8 5, .int .u8 6] 5)
        have hAy := hAx.below hbx
        have hry : (wr.alloc (.cells #[.int .u8 4, .int .u8 5, .int .u8 6] 5)).ownsRow w12.heap.size 5 1 (.slice (some ⟨gx, 0, none⟩) j j) j (X.map (Value.int .u8)) := hrx.alloc _
        have hwy := hwx.alloc (.cells #[.int .u8 4, .int .u8 5, .int .u8 6] 5)
        have hzs : w12.heap.size ≤ (wr.alloc (.cells #[.int .u8 4, .int .u8 5, .int .u8 6] 5)).heap.size := by have := (hry.lt gx rfl).2; omega
        clear hrx hAx hwx hbx
        go_wp2_with (first | (at_builtin; refine append_split rfl (.tmp 209) (.tmp 210) 30 rfl w12.heap.size 5 i0 (.int .u8 0) 1 Try.underlying30 hi hz0 hz1 hz2 rfl (.slice (some ⟨gx, 0, none⟩) j j) j (X.map (Value.int .u8)) rfl hry ⟨wr.heap.size, 0, none⟩ 3 3 [.int .u8 4, .int .u8 5, .int .u8 6] rfl rfl (news3 _ _ _ _ _) (by intro u hu; simp at hu; rcases hu with rfl | rfl | rfl <;> rfl) (by unfold maxLen; omega) (by omega) hzs ?_))
        intro v15 w15 ho15 hg15
        obtain ⟨A15, hw15⟩ := after_append hAy hgx5 A4s hg15 hwy hgxw
        obtain ⟨ax, cx, rfl⟩ := owns_shape ho15
        have A16 := A15.below (Below.refl _ _).drew
        have sv := At.seg A16 b8 u5 u4 j (by rw [u3]; omega)
        rw [u3] at sv
        have sw : Seg .u8 w15.drew (some ⟨gw, 0, none⟩) (toI (D2.take j)) := part_seg (owns_drew hw15) hTl
        have Q10 : Hid _ := alike_any (some ⟨b8, 0, none⟩) (some ⟨gw, 0, none⟩) 64 cw (D2.take j) (D2.take j) w15.drew sv sw hD256 hD256
        rw [decide_eq_true rfl, hTl] at Q10
        have wK : IntKind.i64.wrap ((j : Int) + 3) = (j : Int) + 3 := i64_small _ (by omega) (by omega)
        have ee : ((j : Int) + 3 == (j : Int) + 3) = true := by simp
        have hfin := A16.bel
        clear hg15 ho15 A15 hw15 hAy hry hwy sv sw A16
        go_wp2
        go_region_with (go_at_call 14; refine Calls.mono Q10.out ?_; rintro e w' ⟨rfl, rfl⟩)
        all_goals
          go_wp2
          go_ret
          refine ⟨?_, hfin⟩
          simp
          refine put_last _ 6 _ ?_
          simp only [put_size]
          first
            | decide
            | simp
end Go.Proofs.Ytaicmpkgcppplaa.ringWindows
