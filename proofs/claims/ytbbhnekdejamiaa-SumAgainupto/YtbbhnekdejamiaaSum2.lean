/-
  sum.Sum, Check, Good: of any parts, wherever they lie.
-/
import Derived.Test.YtbbhnekdejamiaaSum1
namespace Go.Proofs.Ytbbhnekdejamiaa
open Go.RowKit

/-- a part: where it lies, its room, its bytes -/
structure Part where
  a : Option Addr
  cap : Nat
  l : List Nat
def Part.val (p : Part) : Value := .slice p.a p.l.length p.cap
def Part.ok (w : World) (p : Part) : Prop := Seg .u8 w p.a (toI p.l) ∧ (∀ x ∈ p.l, x < 256) ∧ p.l.length ≤ p.cap ∧ p.cap ≤ 9223372036854775807
/-- the list of parts: none, or they lie in a row of cells -/
def Parts (w : World) (a : Option Addr) (ps : List Part) : Prop :=
  (ps = [] ∨ ∃ b off, a = some ⟨b, off, none⟩ ∧ ∀ (i : Nat) (h : i < ps.length), w.cell? ⟨b, off + i, none⟩ = some ps[i].val) ∧ ∀ p ∈ ps, p.ok w
def allB (ps : List Part) : List Nat := ps.flatMap Part.l
theorem allB_take_succ (ps : List Part) (k : Nat) (h : k < ps.length) : allB (ps.take (k + 1)) = allB (ps.take k) ++ ps[k].l := by
  unfold allB
  rw [List.take_succ_eq_append_getElem h, List.flatMap_append]
  simp
theorem allB_take_le (ps : List Part) (k : Nat) : (allB (ps.take k)).length ≤ (allB ps).length := by
  have e : allB ps = allB (ps.take k) ++ allB (ps.drop k) := by unfold allB; rw [← List.flatMap_append, List.take_append_drop]
  rw [e, List.length_append]
  omega
theorem allB_lt (ps : List Part) (h : ∀ p ∈ ps, ∀ x ∈ p.l, x < 256) : ∀ x ∈ allB ps, x < 256 := by
  intro x hx
  simp only [allB, List.mem_flatMap] at hx
  obtain ⟨p, hp, hx⟩ := hx
  exact h p hp x hx
theorem Part.ok.old {w w' : World} {p : Part} (h : p.ok w) (hb : Below w.heap.size w w') : p.ok w' := ⟨h.1.old hb, h.2⟩

theorem word_v (a : Option Addr) (len cap : Nat) (l : List Nat) (v : Nat) (w : World) (hv : Hid (v = word1 l)) (hl : l.length = len) (hs : Seg .u8 w a (toI l)) (h256 : ∀ x ∈ l, x < 256) (h1 : 1 ≤ len) :
    Calls Try.prog 18 #[.slice a len cap] w fun e w' => e = .returned (.int .u64 (v : Int)) ∧ Below w.heap.size w w' := by
  rw [hv.out]
  exact word_any a len cap l w hl hs h256 h1
theorem wv_two (r : List Nat) (h : 2 ≤ r.length) : S.wv false r = word1 r + S.wv false (r.drop 2) := by
  match r, h with
  | a :: b :: l, _ => simp [S.wv, word1]; omega
theorem wv_one (r : List Nat) (h : r.length = 1) : S.wv false r = word1 r := by
  match r, h with
  | [a], _ => simp [S.wv, word1]
theorem seg_tail {k : IntKind} {w : World} {a : Option Addr} {l : List Nat} (h : Seg k w a (toI l)) (n : Nat) (hn : n ≤ l.length) : Seg k w (a.map (fun x => x.add n)) (toI (l.drop n)) := by
  have := h.part n (l.length - n) (by rw [toI_len]; omega)
  rw [toI_drop, toI_take, List.take_of_length_le (by simp)] at this
  exact this
/-- as the walk writes the tail of a slice -/
theorem seg_rest {k : IntKind} {w : World} {a : Option Addr} {l : List Nat} (h : Seg k w a (toI l)) (n cp : Nat) (hn : n ≤ l.length) (hc : l.length ≤ cp) :
    Seg k w (if cp = n then a else a.map (fun x => { block := x.block, off := x.off + n })) (toI (l.drop n)) := by
  by_cases h0 : cp = n
  · exact .inl (by rw [List.drop_of_length_le (by omega)]; rfl)
  · rw [if_neg h0]
    have := seg_tail h n hn
    rcases h with hnil | ⟨b, off, rfl, hc⟩
    · exact .inl (by rw [← toI_drop, hnil]; simp)
    · simp only [Option.map_some, Addr.add_lit] at this
      exact this
theorem seg_end {k : IntKind} {w : World} {a : Option Addr} {l : List Nat} (h : l.length = 0) : Seg k w a (toI l) := .inl (by rw [List.eq_nil_of_length_eq_zero h]; rfl)

set_option maxHeartbeats 800000 in
theorem sum_any (a : Option Addr) (n cap : Nat) (ps : List Part) (w : World) (hn : ps.length = n) (hps : Parts w a ps) (htot : (allB ps).length ≤ 1099511627776) (hn2 : n ≤ 9223372036854775807) :
    Calls Try.prog 7 #[.slice a n cap] w fun e w' => e = .returned (.int .i64 ((S.fold (S.wv false (allB ps)) : Nat) : Int)) ∧ Below w.heap.size w w' := by
  subst hn
  obtain ⟨hcells, hok⟩ := hps
  have HT : Hid ((allB ps).length ≤ 1099511627776) := htot
  clear htot
  go_enter Try.func7, Try.ntmps7
  go_wp2
  go_loopw [3, 4, 9] (fun t o ix wr => ∃ k T : Nat, ∃ ob : Bool, k ≤ ps.length ∧ ix = .int .i64 k ∧ t = .int .u64 T ∧ o = .bool ob ∧ T ≤ 71776119061217280 ∧ Hid (T = S.wv false (allB (ps.take k))) ∧ Hid (ob = S.par false (allB (ps.take k)).length) ∧ Below w.heap.size w wr) (fun _ _ ix _ => ps.length - (intOf ix).toNat)
  case atStart => exact ⟨0, 0, false, Nat.zero_le _, rfl, rfl, rfl, by omega, by show _ = _; simp [allB, S.wv], by show _ = _; simp [allB, S.par], Below.refl _ _⟩
  case round =>
    obtain ⟨k, T, ob, hk, rfl, rfl, rfl, hT, HTV, HOB, hbel⟩ := hrel
    by_cases hlt : k < ps.length
    · rcases hcells with hnil | ⟨b, off, rfl, hc⟩
      · rw [hnil] at hlt; simp at hlt
      have hcell := (hbel.cell (p := ⟨b, off + k, none⟩) (World.block_lt_of_cell? w _ (hc k hlt))).trans (hc k hlt)
      have hp := (hok _ (List.getElem_mem hlt)).old hbel
      have e1 := allB_take_succ ps k hlt
      have e2 := allB_take_le ps (k + 1)
      have h256 : ∀ x ∈ allB ps, x < 256 := allB_lt ps (fun p hp => (hok p hp).2.1)
      obtain ⟨p, hpe⟩ : ∃ p, p = ps[k] := ⟨_, rfl⟩
      rw [← hpe] at hcell hp e1
      obtain ⟨pa, pc, l⟩ := p
      obtain ⟨hseg, hl256, hlc, hpc⟩ := hp
      simp only [Part.val] at hcell hseg hl256 hlc hpc e1
      have htl := HT.out
      have hbound : S.wv false (allB (ps.take (k + 1))) ≤ 71776119061217280 := by
        have := S.wv_le false (allB (ps.take (k + 1))) (fun x hx => h256 x (by
          simp only [allB, List.mem_flatMap] at hx ⊢
          obtain ⟨p, hp, hx⟩ := hx
          exact ⟨p, List.mem_of_mem_take hp, hx⟩))
        omega
      have hwv : S.wv false (allB (ps.take (k + 1))) = T + S.wv ob l := by
        rw [e1, S.wv_append, ← HTV.out, ← HOB.out]
      have hpar : S.par false (allB (ps.take (k + 1))).length = S.par ob l.length := by
        rw [e1, List.length_append, S.par_add, ← HOB.out]
      obtain ⟨TOT, hTOT⟩ : ∃ TOT, TOT = S.wv false (allB (ps.take (k + 1))) := ⟨_, rfl⟩
      rw [← hTOT] at hbound hwv
      have HTOT : Hid (TOT = S.wv false (allB (ps.take (k + 1)))) := hTOT
      have HWV : Hid (TOT = T + S.wv ob l) := hwv
      have HPAR : Hid (S.par false (allB (ps.take (k + 1))).length = S.par ob l.length) := hpar
      clear hTOT hwv hpar e1 e2 htl hpe hc h256 HTV HOB
      cases ob with
      | false =>
      obtain ⟨R, hR⟩ : ∃ R, R = l.length := ⟨_, rfl⟩
      have HRR : Hid (R = l.length) := hR
      clear hR
      go_wp2
      go_loopw [3, 6] (fun t p wq => ∃ (r : List Nat) (ad : Option Addr) (cp U : Nat), p = .slice ad r.length cp ∧ t = .int .u64 U ∧ Seg .u8 wq ad (toI r) ∧ (∀ x ∈ r, x < 256) ∧ r.length ≤ cp ∧ cp ≤ 9223372036854775807 ∧ U ≤ 71776119061217280 ∧ Hid (U + S.wv false r = TOT) ∧ Hid (r.length % 2 = R % 2) ∧ Below w.heap.size w wq) (fun _ p _ => match p with | .slice _ n _ => n | _ => 0)
      case atStart => exact ⟨l, pa, pc, T, rfl, rfl, hseg, hl256, hlc, hpc, hT, HWV.out.symm, by show _ = _; rw [HRR.out], hbel⟩
      case round =>
        obtain ⟨r, ad, cp, U, rfl, rfl, hsr, hr256, hrc, hcp, hU, HU, HR, hbq⟩ := hrel
        by_cases h2 : 2 ≤ r.length
        · have e1 := wv_two r h2
          obtain ⟨v, hv⟩ : ∃ v, v = word1 r := ⟨_, rfl⟩
          rw [← hv] at e1
          have HV : Hid (v = word1 r) := hv
          clear hv
          have HD : Hid (U + v + S.wv false (r.drop 2) = TOT) := by have := HU.out; show _ = _; omega
          have hW : U + v ≤ 71776119061217280 := by have := HD.out; omega
          go_wp2_with fail
          refine (word_v ad r.length cp r v _ HV rfl hsr hr256 (by omega)).mono ?_
          rintro e w2 ⟨rfl, hb2⟩
          have hs2 := hsr.old hb2
          clear e1
          go_wp2
          go_roundw
          case rel => exact ⟨r.drop 2, _, cp - 2, U + v, by rw [List.length_drop], by go_num, seg_rest hs2 2 cp h2 hrc, fun x hx => hr256 x (List.mem_of_mem_drop hx), by rw [List.length_drop]; omega, by omega, hW, HD, by have := HR.out; show _ = _; rw [List.length_drop]; omega, hbq.trans (hb2.mono hbq.size)⟩
          case measure => simp; omega
        · by_cases h1 : r.length = 1
          · have e1 := wv_one r h1
            obtain ⟨v, hv⟩ : ∃ v, v = word1 r := ⟨_, rfl⟩
            rw [← hv] at e1
            have HV : Hid (v = word1 r) := hv
            clear hv
            have HD : Hid (U + v = TOT) := by have := HU.out; show _ = _; omega
            have hW : U + v ≤ 71776119061217280 := by have := HD.out; omega
            have h3 : ((r.length : Int) == 1) = true := by simp; omega
            clear e1
            go_wp2_with fail
            refine (word_v ad 1 cp r v _ HV h1 hsr hr256 (by omega)).mono ?_
            rintro e w2 ⟨rfl, hb2⟩
            go_wp2
            go_roundw
            case rel => exact ⟨k + 1, U + v, true, by omega, by go_num, by go_num, rfl, by omega, by show _ = _; rw [HD.out]; exact HTOT.out, by show _ = _; rw [HPAR.out]; have := HR.out; rw [HRR.out, h1] at this; simp [S.par]; omega, hbq.trans (hb2.mono hbq.size)⟩
            case measure => simp [intOf]; omega
          · have h3 : ((r.length : Int) == 1) = false := by simp; omega
            have HD : Hid (U = TOT) := by have := HU.out; rw [List.eq_nil_of_length_eq_zero (show r.length = 0 by omega), S.wv_nil] at this; exact this
            go_wp2
            go_roundw
            case rel => exact ⟨k + 1, U, false, by omega, by go_num, by go_num, rfl, by omega, by show _ = _; rw [HD.out]; exact HTOT.out, by show _ = _; rw [HPAR.out]; have := HR.out; rw [HRR.out, show r.length = 0 by omega] at this; simp [S.par]; omega, hbq⟩
            case measure => simp [intOf]; omega
      | true =>
      by_cases hl0 : 0 < l.length
      · obtain ⟨pb, poff, rfl, hpcell⟩ := seg_at hseg 0 hl0
        have c0 := hpcell 0 hl0
        rw [Nat.add_zero] at c0
        obtain ⟨x, hx⟩ : ∃ x, x = l.getD 0 0 := ⟨_, rfl⟩
        rw [← hx] at c0
        have HX : Hid (l = x :: l.drop 1) := by
          show _ = _
          cases l with
          | nil => simp at hl0
          | cons y l => simp at hx; rw [hx]; rfl
        have hx256 : x < 256 := hl256 x (by rw [HX.out]; simp)
        have HTX : Hid (T + x + S.wv false (l.drop 1) = TOT) := by
          have h1 := HWV.out
          rw [HX.out] at h1
          show _ = _
          rw [S.wv_cons] at h1
          simp only [if_true, Bool.not_true] at h1
          omega
        have hTX : T + x ≤ 71776119061217280 := by have := HTX.out; omega
        obtain ⟨R, hR⟩ : ∃ R, R = l.length - 1 := ⟨_, rfl⟩
        have HRR : Hid (R = l.length - 1) := hR
        clear hR hpcell hx
        have hst : Seg .u8 wr (some ⟨pb, poff + 1, none⟩) (toI (l.drop 1)) := by have := seg_tail hseg 1 hl0; simp only [Option.map_some, Addr.add_lit] at this; exact this
        go_wp2
        all_goals
          go_loopw [3, 6] (fun t p wq => ∃ (r : List Nat) (ad : Option Addr) (cp U : Nat), p = .slice ad r.length cp ∧ t = .int .u64 U ∧ Seg .u8 wq ad (toI r) ∧ (∀ x ∈ r, x < 256) ∧ r.length ≤ cp ∧ cp ≤ 9223372036854775807 ∧ U ≤ 71776119061217280 ∧ Hid (U + S.wv false r = TOT) ∧ Hid (r.length % 2 = R % 2) ∧ Below w.heap.size w wq) (fun _ p _ => match p with | .slice _ n _ => n | _ => 0)
          case atStart =>
            by_cases hp1 : pc = 1
            · first | (exfalso; omega) | exact ⟨l.drop 1, _, 0, T + x, by rw [List.length_drop], by go_num, seg_end (by rw [List.length_drop]; omega), fun x hx => hl256 x (List.mem_of_mem_drop hx), by rw [List.length_drop]; omega, by omega, hTX, HTX, by show _ = _; rw [HRR.out, List.length_drop], hbel⟩
            · first | (exfalso; omega) | exact ⟨l.drop 1, _, pc - 1, T + x, by rw [List.length_drop], by go_num, hst, fun x hx => hl256 x (List.mem_of_mem_drop hx), by rw [List.length_drop]; omega, by omega, hTX, HTX, by show _ = _; rw [HRR.out, List.length_drop], hbel⟩
          case round =>
            obtain ⟨r, ad, cp, U, rfl, rfl, hsr, hr256, hrc, hcp, hU, HU, HR, hbq⟩ := hrel
            by_cases h2 : 2 ≤ r.length
            · have e1 := wv_two r h2
              obtain ⟨v, hv⟩ : ∃ v, v = word1 r := ⟨_, rfl⟩
              rw [← hv] at e1
              have HV : Hid (v = word1 r) := hv
              clear hv
              have HD : Hid (U + v + S.wv false (r.drop 2) = TOT) := by have := HU.out; show _ = _; omega
              have hW : U + v ≤ 71776119061217280 := by have := HD.out; omega
              go_wp2_with fail
              refine (word_v ad r.length cp r v _ HV rfl hsr hr256 (by omega)).mono ?_
              rintro e w2 ⟨rfl, hb2⟩
              have hs2 := hsr.old hb2
              clear e1
              go_wp2
              go_roundw
              case rel => exact ⟨r.drop 2, _, cp - 2, U + v, by rw [List.length_drop], by go_num, seg_rest hs2 2 cp h2 hrc, fun x hx => hr256 x (List.mem_of_mem_drop hx), by rw [List.length_drop]; omega, by omega, hW, HD, by have := HR.out; show _ = _; rw [List.length_drop]; omega, hbq.trans (hb2.mono hbq.size)⟩
              case measure => simp; omega
            · by_cases h1 : r.length = 1
              · have e1 := wv_one r h1
                obtain ⟨v, hv⟩ : ∃ v, v = word1 r := ⟨_, rfl⟩
                rw [← hv] at e1
                have HV : Hid (v = word1 r) := hv
                clear hv
                have HD : Hid (U + v = TOT) := by have := HU.out; show _ = _; omega
                have hW : U + v ≤ 71776119061217280 := by have := HD.out; omega
                have h3 : ((r.length : Int) == 1) = true := by simp; omega
                clear e1
                go_wp2_with fail
                refine (word_v ad 1 cp r v _ HV h1 hsr hr256 (by omega)).mono ?_
                rintro e w2 ⟨rfl, hb2⟩
                go_wp2
                go_roundw
                case rel => exact ⟨k + 1, U + v, true, by omega, by go_num, by go_num, rfl, by omega, by show _ = _; rw [HD.out]; exact HTOT.out, by show _ = _; rw [HPAR.out]; have := HR.out; rw [HRR.out, h1] at this; simp [S.par]; omega, hbq.trans (hb2.mono hbq.size)⟩
                case measure => simp [intOf]; omega
              · have h3 : ((r.length : Int) == 1) = false := by simp; omega
                have HD : Hid (U = TOT) := by have := HU.out; rw [List.eq_nil_of_length_eq_zero (show r.length = 0 by omega), S.wv_nil] at this; exact this
                go_wp2
                go_roundw
                case rel => exact ⟨k + 1, U, false, by omega, by go_num, by go_num, rfl, by omega, by show _ = _; rw [HD.out]; exact HTOT.out, by show _ = _; rw [HPAR.out]; have := HR.out; rw [HRR.out, show r.length = 0 by omega] at this; simp [S.par]; omega, hbq⟩
                case measure => simp [intOf]; omega
      · have hl1 : l.length = 0 := by omega
        have HTX : Hid (T = TOT) := by
          have h1 := HWV.out
          rw [List.eq_nil_of_length_eq_zero hl1, S.wv_nil] at h1
          exact h1.symm
        go_wp2
        go_loopw [3, 6] (fun t p wq => ∃ (ad : Option Addr) (cp : Nat), p = .slice ad 0 cp ∧ t = .int .u64 T ∧ Below w.heap.size w wq) (fun _ p _ => 0)
        case atStart => exact ⟨pa, pc, by first | rfl | rw [hl1], rfl, hbel⟩
        case round =>
          obtain ⟨ad, cp, rfl, rfl, hbq⟩ := hrel
          go_wp2
          go_roundw
          case rel => exact ⟨k + 1, T, true, by omega, by go_num, by go_num, rfl, by omega, by show _ = _; rw [HTX.out]; exact HTOT.out, by show _ = _; rw [HPAR.out, hl1]; rfl, hbq⟩
          case measure => simp [intOf]; omega
    · obtain rfl : k = ps.length := by omega
      have HTV2 : Hid (T = S.wv false (allB ps)) := by have := HTV.out; rw [List.take_length] at this; exact this
      go_wp2_with fail
      refine (fold_any T wr (by omega)).mono ?_
      rintro e w' ⟨rfl, rfl⟩
      go_wp2
      go_ret
      exact ⟨ret1 (by rw [HTV2.out]), hbel⟩
end Go.Proofs.Ytbbhnekdejamiaa
