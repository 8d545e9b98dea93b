/-
  sum.Sum, Check, Good, Fix: what later layers use (Sum1 to Sum3, Sum5, over Base).
-/
import Derived.Test.YtfoeepbndfnifaaDoorBase
import Derived.Test.YtfoeepbndfnifaaDoorSMath
import Derived.Test.YtfoeepbndfnifaaDoorPSmall
import Derived.Deep.QuietTactic
import Derived.BigQuiet
namespace Go.Proofs.YtfoeepbndfnifaaDoor
open Go.RowKit


theorem seg_at {k : IntKind} {w : World} {a : Option Addr} {l : List Nat} (h : Seg k w a (toI l)) (i : Nat) (hi : i < l.length) : ∃ b off, a = some ⟨b, off, none⟩ ∧ ∀ j, j < l.length → w.cell? ⟨b, off + j, none⟩ = some (.int k ((l.getD j 0 : Nat) : Int)) := by
  rcases h with hnil | ⟨b, off, rfl, hc⟩
  · have := congrArg List.length hnil; rw [toI_len] at this; simp at this; subst this; simp at hi
  · refine ⟨b, off, rfl, fun j hj => ?_⟩
    have := hc j (by rw [toI_len]; exact hj)
    rwa [toI_getD] at this

theorem or_word (x y : Nat) (hx : x < 256) (hy : y < 256) : bits .or .u64 ((x : Int) * 256) (y : Int) = ((256 * x + y : Nat) : Int) := by
  have e : ((x : Int) * 256) = ((256 * x : Nat) : Int) := by omega
  rw [e, u64_or_nat _ _ (by omega) (by omega)]
  have h2 := Nat.two_pow_add_eq_or_of_lt (i := 8) (b := y) (by omega) x
  have h3 : 256 * x ||| y = 256 * x + y := h2.symm
  rw [h3]

/-- what the first word of some bytes is -/
def word1 (l : List Nat) : Nat := 256 * l.getD 0 0 + l.getD 1 0
set_option maxHeartbeats 400000 in
theorem word_q (a : Option Addr) (len cap : Nat) (l : List Nat) (w : World) (hl : l.length = len) (hs : Seg .u8 w a (toI l)) (h256 : ∀ x ∈ l, x < 256) (h1 : 1 ≤ len) :
    Calls Tryd.prog 81 #[.slice a len cap] w fun e w' => e = .returned (.int .u64 ((word1 l : Nat) : Int)) ∧ ∃ m, w' = w.drewN m := by
  subst hl
  obtain ⟨b, off, rfl, hc⟩ := seg_at hs 0 (by omega)
  have c0 := hc 0 (by omega)
  have hx0 : l.getD 0 0 < 256 := by simp only [List.getD, List.getElem?_eq_getElem (show 0 < l.length by omega), Option.getD_some]; exact h256 _ (List.getElem_mem _)
  by_cases h2 : l.length = 1
  · have e0 : l.getD 1 0 = 0 := by simp [List.getD, h2]
    have HW : Hid (word1 l = 256 * l.getD 0 0) := by show _ = _; rw [word1, e0]; omega
    obtain ⟨x, hx⟩ : ∃ x, x = l.getD 0 0 := ⟨_, rfl⟩
    rw [← hx] at c0 hx0 HW
    clear hc hx e0
    rw [Nat.add_zero] at c0
    have h3 : ((l.length : Int) == 1) = true := by simp; omega
    go_enter Tryd.func81, Tryd.ntmps81
    go_wp2
    go_ret
    exact ⟨ret1 (by rw [HW.out]; omega), 0, rfl⟩
  · have c1 := hc 1 (by omega)
    have hy0 : l.getD 1 0 < 256 := by simp only [List.getD, List.getElem?_eq_getElem (show 1 < l.length by omega), Option.getD_some]; exact h256 _ (List.getElem_mem _)
    have HW : Hid (word1 l = 256 * l.getD 0 0 + l.getD 1 0) := rfl
    obtain ⟨x, hx⟩ : ∃ x, x = l.getD 0 0 := ⟨_, rfl⟩
    obtain ⟨y, hy⟩ : ∃ y, y = l.getD 1 0 := ⟨_, rfl⟩
    rw [← hx] at c0 hx0 HW
    rw [← hy] at c1 hy0 HW
    clear hc hx hy
    rw [Nat.add_zero] at c0
    have h3 : ((l.length : Int) == 1) = false := by simp; omega
    have h4 : 2 ≤ l.length := by omega
    go_enter Tryd.func81, Tryd.ntmps81
    go_wp2
    go_region
    go_wp2
    go_ret
    exact ⟨ret1 (by rw [HW.out]; first | exact or_word x y hx0 hy0 | simpa using or_word x y hx0 hy0), 1, rfl⟩

theorem below_drewN (w : World) (m : Nat) : Below w.heap.size w (w.drewN m) := ⟨rfl, rfl, rfl, Nat.le_refl _, fun _ _ => rfl⟩
theorem word_any (a : Option Addr) (len cap : Nat) (l : List Nat) (w : World) (hl : l.length = len) (hs : Seg .u8 w a (toI l)) (h256 : ∀ x ∈ l, x < 256) (h1 : 1 ≤ len) :
    Calls Tryd.prog 81 #[.slice a len cap] w fun e w' => e = .returned (.int .u64 ((word1 l : Nat) : Int)) ∧ Below w.heap.size w w' :=
  (word_q a len cap l w hl hs h256 h1).mono (fun e w' ⟨h, m, hm⟩ => ⟨h, by rw [hm]; exact below_drewN w m⟩)

theorem fold_num (n : Nat) (h : n < 18446744073709551616) : bits .and .u64 (n : Int) 65535 = ((n % 65536 : Nat) : Int) := by
  have := u64_and_nat n 65535 h (by decide)
  rw [show (65535 : Nat) = 2 ^ 16 - 1 by rfl, Nat.and_two_pow_sub_one_eq_mod] at this
  simpa using this
set_option maxHeartbeats 400000 in
theorem fold_any (n : Nat) (w : World) (h : n < 18446744073709551616) : Calls Tryd.prog 82 #[.int .u64 n] w fun e w' => e = .returned (.int .i64 ((S.fold n : Nat) : Int)) ∧ w = w' := by
  go_enter Tryd.func82, Tryd.ntmps82
  go_wp2
  go_loop [0] (fun v => ∃ m : Nat, m < 18446744073709551616 ∧ v = .int .u64 m ∧ Hid (S.fold m = S.fold n)) (fun v => (intOf v).toNat)
  case atStart => exact ⟨n, h, rfl, rfl⟩
  case round =>
    obtain ⟨m, hm, rfl, HM⟩ := hrel
    by_cases hlt : 65535 < m
    · have ha := fold_num m hm
      obtain ⟨q, hq⟩ : ∃ q, q = m % 65536 := ⟨_, rfl⟩
      rw [← hq] at ha
      have hq2 : q < 65536 := by omega
      have HQ : Hid (q = m % 65536) := hq
      clear hq
      go_wp2
      go_round
      case rel => exact ⟨m % 65536 + m / 65536, by omega, by have := HQ.out; go_num, by show _ = _; rw [S.fold_step m hlt]; exact HM.out⟩
      case measure => have := HQ.out; simp [intOf]; omega
    · have HM2 : Hid (m = S.fold n) := by have := HM.out; rw [S.fold_small m (by omega)] at this; exact this
      go_wp2
      go_ret
      exact ⟨ret1 (by rw [← HM2.out]; try (unfold wrap64; omega)), rfl⟩


/-- a part: where it lies, its room, its bytes -/
structure Part where
  a : Option Addr
  cap : Nat
  l : List Nat
def Part.val (p : Part) : Value := .slice p.a p.l.length p.cap
def Part.ok (w : World) (p : Part) : Prop := Seg .u8 w p.a (toI p.l) ∧ (∀ x ∈ p.l, x < 256) ∧ p.l.length ≤ p.cap ∧ p.cap ≤ 9223372036854775807
/-- the list of parts: none, or they lie in a row of cells -/
def Parts (w : World) (a : Option Addr) (ps : List Part) : Prop :=
  (ps = [] ∨ ∃ b off, a = some ⟨b, off, none⟩ ∧ ∀ (i : Nat) (h : i < ps.length), w.cell? ⟨b, off + i, none⟩ = some ps[i].val) ∧ ∀ p ∈ ps, p.ok w
def allB (ps : List Part) : List Nat := ps.flatMap Part.l
theorem allB_take_succ (ps : List Part) (k : Nat) (h : k < ps.length) : allB (ps.take (k + 1)) = allB (ps.take k) ++ ps[k].l := by
  unfold allB
  rw [List.take_succ_eq_append_getElem h, List.flatMap_append]
  simp
theorem allB_take_le (ps : List Part) (k : Nat) : (allB (ps.take k)).length ≤ (allB ps).length := by
  have e : allB ps = allB (ps.take k) ++ allB (ps.drop k) := by unfold allB; rw [← List.flatMap_append, List.take_append_drop]
  rw [e, List.length_append]
  omega
theorem allB_lt (ps : List Part) (h : ∀ p ∈ ps, ∀ x ∈ p.l, x < 256) : ∀ x ∈ allB ps, x < 256 := by
  intro x hx
  simp only [allB, List.mem_flatMap] at hx
  obtain ⟨p, hp, hx⟩ := hx
  exact h p hp x hx
theorem Part.ok.old {w w' : World} {p : Part} (h : p.ok w) (hb : Below w.heap.size w w') : p.ok w' := ⟨h.1.old hb, h.2⟩

theorem word_v (a : Option Addr) (len cap : Nat) (l : List Nat) (v : Nat) (w : World) (hv : Hid (v = word1 l)) (hl : l.length = len) (hs : Seg .u8 w a (toI l)) (h256 : ∀ x ∈ l, x < 256) (h1 : 1 ≤ len) :
    Calls Tryd.prog 81 #[.slice a len cap] w fun e w' => e = .returned (.int .u64 (v : Int)) ∧ Below w.heap.size w w' := by
  rw [hv.out]
  exact word_any a len cap l w hl hs h256 h1
theorem wv_two (r : List Nat) (h : 2 ≤ r.length) : S.wv false r = word1 r + S.wv false (r.drop 2) := by
  match r, h with
  | a :: b :: l, _ => simp [S.wv, word1]; omega
theorem wv_one (r : List Nat) (h : r.length = 1) : S.wv false r = word1 r := by
  match r, h with
  | [a], _ => simp [S.wv, word1]
theorem seg_tail {k : IntKind} {w : World} {a : Option Addr} {l : List Nat} (h : Seg k w a (toI l)) (n : Nat) (hn : n ≤ l.length) : Seg k w (a.map (fun x => x.add n)) (toI (l.drop n)) := by
  have := h.part n (l.length - n) (by rw [toI_len]; omega)
  rw [toI_drop, toI_take, List.take_of_length_le (by simp)] at this
  exact this
/-- as the walk writes the tail of a slice -/
theorem seg_rest {k : IntKind} {w : World} {a : Option Addr} {l : List Nat} (h : Seg k w a (toI l)) (n cp : Nat) (hn : n ≤ l.length) (hc : l.length ≤ cp) :
    Seg k w (if cp = n then a else a.map (fun x => { block := x.block, off := x.off + n })) (toI (l.drop n)) := by
  by_cases h0 : cp = n
  · exact .inl (by rw [List.drop_of_length_le (by omega)]; rfl)
  · rw [if_neg h0]
    have := seg_tail h n hn
    rcases h with hnil | ⟨b, off, rfl, hc⟩
    · exact .inl (by rw [← toI_drop, hnil]; simp)
    · simp only [Option.map_some, Addr.add_lit] at this
      exact this
theorem seg_end {k : IntKind} {w : World} {a : Option Addr} {l : List Nat} (h : l.length = 0) : Seg k w a (toI l) := .inl (by rw [List.eq_nil_of_length_eq_zero h]; rfl)

set_option maxHeartbeats 800000 in
theorem sum_any (a : Option Addr) (n cap : Nat) (ps : List Part) (w : World) (hn : ps.length = n) (hps : Parts w a ps) (htot : (allB ps).length ≤ 1099511627776) (hn2 : n ≤ 9223372036854775807) :
    Calls Tryd.prog 70 #[.slice a n cap] w fun e w' => e = .returned (.int .i64 ((S.fold (S.wv false (allB ps)) : Nat) : Int)) ∧ Below w.heap.size w w' := by
  subst hn
  obtain ⟨hcells, hok⟩ := hps
  have HT : Hid ((allB ps).length ≤ 1099511627776) := htot
  clear htot
  go_enter Tryd.func70, Tryd.ntmps70
  go_wp2
  go_loopw [3, 4, 9] (fun t o ix wr => ∃ k T : Nat, ∃ ob : Bool, k ≤ ps.length ∧ ix = .int .i64 k ∧ t = .int .u64 T ∧ o = .bool ob ∧ T ≤ 71776119061217280 ∧ Hid (T = S.wv false (allB (ps.take k))) ∧ Hid (ob = S.par false (allB (ps.take k)).length) ∧ Below w.heap.size w wr) (fun _ _ ix _ => ps.length - (intOf ix).toNat)
  case atStart => exact ⟨0, 0, false, Nat.zero_le _, rfl, rfl, rfl, by omega, by show _ = _; simp [allB, S.wv], by show _ = _; simp [allB, S.par], Below.refl _ _⟩
  case round =>
    obtain ⟨k, T, ob, hk, rfl, rfl, rfl, hT, HTV, HOB, hbel⟩ := hrel
    by_cases hlt : k < ps.length
    · rcases hcells with hnil | ⟨b, off, rfl, hc⟩
      · rw [hnil] at hlt; simp at hlt
      have hcell := (hbel.cell (p := ⟨b, off + k, none⟩) (World.block_lt_of_cell? w _ (hc k hlt))).trans (hc k hlt)
      have hp := (hok _ (List.getElem_mem hlt)).old hbel
      have e1 := allB_take_succ ps k hlt
      have e2 := allB_take_le ps (k + 1)
      have h256 : ∀ x ∈ allB ps, x < 256 := allB_lt ps (fun p hp => (hok p hp).2.1)
      obtain ⟨p, hpe⟩ : ∃ p, p = ps[k] := ⟨_, rfl⟩
      rw [← hpe] at hcell hp e1
      obtain ⟨pa, pc, l⟩ := p
      obtain ⟨hseg, hl256, hlc, hpc⟩ := hp
      simp only [Part.val] at hcell hseg hl256 hlc hpc e1
      have htl := HT.out
      have hbound : S.wv false (allB (ps.take (k + 1))) ≤ 71776119061217280 := by
        have := S.wv_le false (allB (ps.take (k + 1))) (fun x hx => h256 x (by
          simp only [allB, List.mem_flatMap] at hx ⊢
          obtain ⟨p, hp, hx⟩ := hx
          exact ⟨p, List.mem_of_mem_take hp, hx⟩))
        omega
      have hwv : S.wv false (allB (ps.take (k + 1))) = T + S.wv ob l := by
        rw [e1, S.wv_append, ← HTV.out, ← HOB.out]
      have hpar : S.par false (allB (ps.take (k + 1))).length = S.par ob l.length := by
        rw [e1, List.length_append, S.par_add, ← HOB.out]
      obtain ⟨TOT, hTOT⟩ : ∃ TOT, TOT = S.wv false (allB (ps.take (k + 1))) := ⟨_, rfl⟩
      rw [← hTOT] at hbound hwv
      have HTOT : Hid (TOT = S.wv false (allB (ps.take (k + 1)))) := hTOT
      have HWV : Hid (TOT = T + S.wv ob l) := hwv
      have HPAR : Hid (S.par false (allB (ps.take (k + 1))).length = S.par ob l.length) := hpar
      clear hTOT hwv hpar e1 e2 htl hpe hc h256 HTV HOB
      cases ob with
      | false =>
      obtain ⟨R, hR⟩ : ∃ R, R = l.length := ⟨_, rfl⟩
      have HRR : Hid (R = l.length) := hR
      clear hR
      go_wp2
      go_loopw [3, 6] (fun t p wq => ∃ (r : List Nat) (ad : Option Addr) (cp U : Nat), p = .slice ad r.length cp ∧ t = .int .u64 U ∧ Seg .u8 wq ad (toI r) ∧ (∀ x ∈ r, x < 256) ∧ r.length ≤ cp ∧ cp ≤ 9223372036854775807 ∧ U ≤ 71776119061217280 ∧ Hid (U + S.wv false r = TOT) ∧ Hid (r.length % 2 = R % 2) ∧ Below w.heap.size w wq) (fun _ p _ => match p with | .slice _ n _ => n | _ => 0)
      case atStart => exact ⟨l, pa, pc, T, rfl, rfl, hseg, hl256, hlc, hpc, hT, HWV.out.symm, by show _ = _; rw [HRR.out], hbel⟩
      case round =>
        obtain ⟨r, ad, cp, U, rfl, rfl, hsr, hr256, hrc, hcp, hU, HU, HR, hbq⟩ := hrel
        by_cases h2 : 2 ≤ r.length
        · have e1 := wv_two r h2
          obtain ⟨v, hv⟩ : ∃ v, v = word1 r := ⟨_, rfl⟩
          rw [← hv] at e1
          have HV : Hid (v = word1 r) := hv
          clear hv
          have HD : Hid (U + v + S.wv false (r.drop 2) = TOT) := by have := HU.out; show _ = _; omega
          have hW : U + v ≤ 71776119061217280 := by have := HD.out; omega
          go_wp2_with fail
          refine (word_v ad r.length cp r v _ HV rfl hsr hr256 (by omega)).mono ?_
          rintro e w2 ⟨rfl, hb2⟩
          have hs2 := hsr.old hb2
          clear e1
          go_wp2
          go_roundw
          case rel => exact ⟨r.drop 2, _, cp - 2, U + v, by rw [List.length_drop], by go_num, seg_rest hs2 2 cp h2 hrc, fun x hx => hr256 x (List.mem_of_mem_drop hx), by rw [List.length_drop]; omega, by omega, hW, HD, by have := HR.out; show _ = _; rw [List.length_drop]; omega, hbq.trans (hb2.mono hbq.size)⟩
          case measure => simp; omega
        · by_cases h1 : r.length = 1
          · have e1 := wv_one r h1
            obtain ⟨v, hv⟩ : ∃ v, v = word1 r := ⟨_, rfl⟩
            rw [← hv] at e1
            have HV : Hid (v = word1 r) := hv
            clear hv
            have HD : Hid (U + v = TOT) := by have := HU.out; show _ = _; omega
            have hW : U + v ≤ 71776119061217280 := by have := HD.out; omega
            have h3 : ((r.length : Int) == 1) = true := by simp; omega
            clear e1
            go_wp2_with fail
            refine (word_v ad 1 cp r v _ HV h1 hsr hr256 (by omega)).mono ?_
            rintro e w2 ⟨rfl, hb2⟩
            go_wp2
            go_roundw
            case rel => exact ⟨k + 1, U + v, true, by omega, by go_num, by go_num, rfl, by omega, by show _ = _; rw [HD.out]; exact HTOT.out, by show _ = _; rw [HPAR.out]; have := HR.out; rw [HRR.out, h1] at this; simp [S.par]; omega, hbq.trans (hb2.mono hbq.size)⟩
            case measure => simp [intOf]; omega
          · have h3 : ((r.length : Int) == 1) = false := by simp; omega
            have HD : Hid (U = TOT) := by have := HU.out; rw [List.eq_nil_of_length_eq_zero (show r.length = 0 by omega), S.wv_nil] at this; exact this
            go_wp2
            go_roundw
            case rel => exact ⟨k + 1, U, false, by omega, by go_num, by go_num, rfl, by omega, by show _ = _; rw [HD.out]; exact HTOT.out, by show _ = _; rw [HPAR.out]; have := HR.out; rw [HRR.out, show r.length = 0 by omega] at this; simp [S.par]; omega, hbq⟩
            case measure => simp [intOf]; omega
      | true =>
      by_cases hl0 : 0 < l.length
      · obtain ⟨pb, poff, rfl, hpcell⟩ := seg_at hseg 0 hl0
        have c0 := hpcell 0 hl0
        rw [Nat.add_zero] at c0
        obtain ⟨x, hx⟩ : ∃ x, x = l.getD 0 0 := ⟨_, rfl⟩
        rw [← hx] at c0
        have HX : Hid (l = x :: l.drop 1) := by
          show _ = _
          cases l with
          | nil => simp at hl0
          | cons y l => simp at hx; rw [hx]; rfl
        have hx256 : x < 256 := hl256 x (by rw [HX.out]; simp)
        have HTX : Hid (T + x + S.wv false (l.drop 1) = TOT) := by
          have h1 := HWV.out
          rw [HX.out] at h1
          show _ = _
          rw [S.wv_cons] at h1
          simp only [if_true, Bool.not_true] at h1
          omega
        have hTX : T + x ≤ 71776119061217280 := by have := HTX.out; omega
        obtain ⟨R, hR⟩ : ∃ R, R = l.length - 1 := ⟨_, rfl⟩
        have HRR : Hid (R = l.length - 1) := hR
        clear hR hpcell hx
        have hst : Seg .u8 wr (some ⟨pb, poff + 1, none⟩) (toI (l.drop 1)) := by have := seg_tail hseg 1 hl0; simp only [Option.map_some, Addr.add_lit] at this; exact this
        go_wp2
        all_goals
          go_loopw [3, 6] (fun t p wq => ∃ (r : List Nat) (ad : Option Addr) (cp U : Nat), p = .slice ad r.length cp ∧ t = .int .u64 U ∧ Seg .u8 wq ad (toI r) ∧ (∀ x ∈ r, x < 256) ∧ r.length ≤ cp ∧ cp ≤ 9223372036854775807 ∧ U ≤ 71776119061217280 ∧ Hid (U + S.wv false r = TOT) ∧ Hid (r.length % 2 = R % 2) ∧ Below w.heap.size w wq) (fun _ p _ => match p with | .slice _ n _ => n | _ => 0)
          case atStart =>
            by_cases hp1 : pc = 1
            · first | (exfalso; omega) | exact ⟨l.drop 1, _, 0, T + x, by rw [List.length_drop], by go_num, seg_end (by rw [List.length_drop]; omega), fun x hx => hl256 x (List.mem_of_mem_drop hx), by rw [List.length_drop]; omega, by omega, hTX, HTX, by show _ = _; rw [HRR.out, List.length_drop], hbel⟩
            · first | (exfalso; omega) | exact ⟨l.drop 1, _, pc - 1, T + x, by rw [List.length_drop], by go_num, hst, fun x hx => hl256 x (List.mem_of_mem_drop hx), by rw [List.length_drop]; omega, by omega, hTX, HTX, by show _ = _; rw [HRR.out, List.length_drop], hbel⟩
          case round =>
            obtain ⟨r, ad, cp, U, rfl, rfl, hsr, hr256, hrc, hcp, hU, HU, HR, hbq⟩ := hrel
            by_cases h2 : 2 ≤ r.length
            · have e1 := wv_two r h2
              obtain ⟨v, hv⟩ : ∃ v, v = word1 r := ⟨_, rfl⟩
              rw [← hv] at e1
              have HV : Hid (v = word1 r) := hv
              clear hv
              have HD : Hid (U + v + S.wv false (r.drop 2) = TOT) := by have := HU.out; show _ = _; omega
              have hW : U + v ≤ 71776119061217280 := by have := HD.out; omega
              go_wp2_with fail
              refine (word_v ad r.length cp r v _ HV rfl hsr hr256 (by omega)).mono ?_
              rintro e w2 ⟨rfl, hb2⟩
              have hs2 := hsr.old hb2
              clear e1
              go_wp2
              go_roundw
              case rel => exact ⟨r.drop 2, _, cp - 2, U + v, by rw [List.length_drop], by go_num, seg_rest hs2 2 cp h2 hrc, fun x hx => hr256 x (List.mem_of_mem_drop hx), by rw [List.length_drop]; omega, by omega, hW, HD, by have := HR.out; show _ = _; rw [List.length_drop]; omega, hbq.trans (hb2.mono hbq.size)⟩
              case measure => simp; omega
            · by_cases h1 : r.length = 1
              · have e1 := wv_one r h1
                obtain ⟨v, hv⟩ : ∃ v, v = word1 r := ⟨_, rfl⟩
                rw [← hv] at e1
                have HV : Hid (v = word1 r) := hv
                clear hv
                have HD : Hid (U + v = TOT) := by have := HU.out; show _ = _; omega
                have hW : U + v ≤ 71776119061217280 := by have := HD.out; omega
                have h3 : ((r.length : Int) == 1) = true := by simp; omega
                clear e1
                go_wp2_with fail
                refine (word_v ad 1 cp r v _ HV h1 hsr hr256 (by omega)).mono ?_
                rintro e w2 ⟨rfl, hb2⟩
                go_wp2
                go_roundw
                case rel => exact ⟨k + 1, U + v, true, by omega, by go_num, by go_num, rfl, by omega, by show _ = _; rw [HD.out]; exact HTOT.out, by show _ = _; rw [HPAR.out]; have := HR.out; rw [HRR.out, h1] at this; simp [S.par]; omega, hbq.trans (hb2.mono hbq.size)⟩
                case measure => simp [intOf]; omega
              · have h3 : ((r.length : Int) == 1) = false := by simp; omega
                have HD : Hid (U = TOT) := by have := HU.out; rw [List.eq_nil_of_length_eq_zero (show r.length = 0 by omega), S.wv_nil] at this; exact this
                go_wp2
                go_roundw
                case rel => exact ⟨k + 1, U, false, by omega, by go_num, by go_num, rfl, by omega, by show _ = _; rw [HD.out]; exact HTOT.out, by show _ = _; rw [HPAR.out]; have := HR.out; rw [HRR.out, show r.length = 0 by omega] at this; simp [S.par]; omega, hbq⟩
                case measure => simp [intOf]; omega
      · have hl1 : l.length = 0 := by omega
        have HTX : Hid (T = TOT) := by
          have h1 := HWV.out
          rw [List.eq_nil_of_length_eq_zero hl1, S.wv_nil] at h1
          exact h1.symm
        go_wp2
        go_loopw [3, 6] (fun t p wq => ∃ (ad : Option Addr) (cp : Nat), p = .slice ad 0 cp ∧ t = .int .u64 T ∧ Below w.heap.size w wq) (fun _ p _ => 0)
        case atStart => exact ⟨pa, pc, by first | rfl | rw [hl1], rfl, hbel⟩
        case round =>
          obtain ⟨ad, cp, rfl, rfl, hbq⟩ := hrel
          go_wp2
          go_roundw
          case rel => exact ⟨k + 1, T, true, by omega, by go_num, by go_num, rfl, by omega, by show _ = _; rw [HTX.out]; exact HTOT.out, by show _ = _; rw [HPAR.out, hl1]; rfl, hbq⟩
          case measure => simp [intOf]; omega
    · obtain rfl : k = ps.length := by omega
      have HTV2 : Hid (T = S.wv false (allB ps)) := by have := HTV.out; rw [List.take_length] at this; exact this
      go_wp2_with fail
      refine (fold_any T wr (by omega)).mono ?_
      rintro e w' ⟨rfl, rfl⟩
      go_wp2
      go_ret
      exact ⟨ret1 (by rw [HTV2.out]), hbel⟩


theorem check_any (a : Option Addr) (n cap : Nat) (ps : List Part) (w : World) (hn : ps.length = n) (hps : Parts w a ps) (htot : (allB ps).length ≤ 1099511627776) (hn2 : n ≤ 9223372036854775807) :
    Calls Tryd.prog 47 #[.slice a n cap] w fun e w' => e = .returned (.int .i64 ((65535 - S.fold (S.wv false (allB ps)) : Nat) : Int)) ∧ Below w.heap.size w w' := by
  go_enter Tryd.func47, Tryd.ntmps47
  go_wp2_with fail
  refine (sum_any a n cap ps w hn hps htot hn2).mono ?_
  rintro e w1 ⟨rfl, hb1⟩
  have h1 := S.fold_le (S.wv false (allB ps))
  obtain ⟨f, hf⟩ : ∃ f, f = S.fold (S.wv false (allB ps)) := ⟨_, rfl⟩
  rw [← hf] at h1 ⊢
  have HF : Hid (f = S.fold (S.wv false (allB ps))) := hf
  clear hf
  go_wp2
  go_ret
  exact ⟨ret1 (by rw [← HF.out]; omega), hb1⟩

theorem good_any (a : Option Addr) (n cap : Nat) (ps : List Part) (w : World) (hn : ps.length = n) (hps : Parts w a ps) (htot : (allB ps).length ≤ 1099511627776) (hn2 : n ≤ 9223372036854775807) :
    Calls Tryd.prog 59 #[.slice a n cap] w fun e w' => e = .returned (.bool (decide (S.fold (S.wv false (allB ps)) = 65535))) ∧ Below w.heap.size w w' := by
  go_enter Tryd.func59, Tryd.ntmps59
  go_wp2_with fail
  refine (sum_any a n cap ps w hn hps htot hn2).mono ?_
  rintro e w1 ⟨rfl, hb1⟩
  have h1 := S.fold_le (S.wv false (allB ps))
  obtain ⟨f, hf⟩ : ∃ f, f = S.fold (S.wv false (allB ps)) := ⟨_, rfl⟩
  rw [← hf] at h1 ⊢
  have HF : Hid (f = S.fold (S.wv false (allB ps))) := hf
  clear hf
  go_wp2
  go_ret
  refine ⟨congrArg (fun b => Ending.returned (.bool b)) ?_, hb1⟩
  rw [← HF.out]
  by_cases h : f = 65535
  · subst h; rfl
  · have h2 : ¬ (f : Int) = 65535 := by omega
    rw [decide_eq_false h]
    simpa using h2

/-- the parts lie in a list of the call's own make -/
theorem parts_new (w : World) (ps : List Part) (t : TypeId) (h : ∀ p ∈ ps, p.ok w) : Parts (w.alloc (.cells (ps.map Part.val).toArray t)) (some ⟨w.heap.size, 0, none⟩) ps := by
  refine ⟨.inr ⟨_, _, rfl, fun i hi => ?_⟩, fun p hp => (h p hp).old ((Below.refl _ _).alloc (Nat.le_refl _) _)⟩
  rw [Nat.zero_add, World.cell?_alloc_at _ _ _ _ rfl]
  simp [hi]
theorem bthen {a b c : World} (h : Below a.heap.size a b) (k : Below b.heap.size b c) : Below a.heap.size a c := h.trans (k.mono h.size)
theorem below_new {w w' : World} {o : Obj} (h : Below (w.alloc o).heap.size (w.alloc o) w') : Below w.heap.size w w' := ((Below.refl _ _).alloc (Nat.le_refl _) _).trans (h.mono (by simp))

section
variable (w : World) (B : Nat) (a1 a2 : Option Addr) (n1 n2 c1 c2 : Nat) (l1 l2 : List Nat)
theorem sum_one (hB : B = w.heap.size) (hl : l1.length = n1) (h : Part.ok w ⟨a1, c1, l1⟩) (hs : n1 ≤ 1099511627776) :
    Calls Tryd.prog 70 #[.slice (some ⟨B, 0, none⟩) 1 1] (w.alloc (.cells #[.slice a1 n1 c1] 25)) fun e w' => e = .returned (.int .i64 ((S.fold (S.wv false l1) : Nat) : Int)) ∧ Below w.heap.size w w' := by
  subst hB hl
  have := sum_any (some ⟨w.heap.size, 0, none⟩) 1 1 [⟨a1, c1, l1⟩] _ rfl (parts_new w [⟨a1, c1, l1⟩] 25 (by intro p hp; simp at hp; subst hp; exact h)) (by simp [allB]; omega) (by omega)
  simp only [allB, List.flatMap_cons, List.flatMap_nil, List.append_nil] at this
  exact this.mono (fun e w' h => ⟨h.1, below_new h.2⟩)
theorem check_one (hB : B = w.heap.size) (hl : l1.length = n1) (h : Part.ok w ⟨a1, c1, l1⟩) (hs : n1 ≤ 1099511627776) :
    Calls Tryd.prog 47 #[.slice (some ⟨B, 0, none⟩) 1 1] (w.alloc (.cells #[.slice a1 n1 c1] 25)) fun e w' => e = .returned (.int .i64 ((65535 - S.fold (S.wv false l1) : Nat) : Int)) ∧ Below w.heap.size w w' := by
  subst hB hl
  have := check_any (some ⟨w.heap.size, 0, none⟩) 1 1 [⟨a1, c1, l1⟩] _ rfl (parts_new w [⟨a1, c1, l1⟩] 25 (by intro p hp; simp at hp; subst hp; exact h)) (by simp [allB]; omega) (by omega)
  simp only [allB, List.flatMap_cons, List.flatMap_nil, List.append_nil] at this
  exact this.mono (fun e w' h => ⟨h.1, below_new h.2⟩)
theorem good_one (hB : B = w.heap.size) (hl : l1.length = n1) (h : Part.ok w ⟨a1, c1, l1⟩) (hs : n1 ≤ 1099511627776) :
    Calls Tryd.prog 59 #[.slice (some ⟨B, 0, none⟩) 1 1] (w.alloc (.cells #[.slice a1 n1 c1] 25)) fun e w' => e = .returned (.bool (decide (S.fold (S.wv false l1) = 65535))) ∧ Below w.heap.size w w' := by
  subst hB hl
  have := good_any (some ⟨w.heap.size, 0, none⟩) 1 1 [⟨a1, c1, l1⟩] _ rfl (parts_new w [⟨a1, c1, l1⟩] 25 (by intro p hp; simp at hp; subst hp; exact h)) (by simp [allB]; omega) (by omega)
  simp only [allB, List.flatMap_cons, List.flatMap_nil, List.append_nil] at this
  exact this.mono (fun e w' h => ⟨h.1, below_new h.2⟩)
theorem good_none (c : Nat) : Calls Tryd.prog 59 #[.slice none 0 c] w fun e w' => e = .returned (.bool false) ∧ Below w.heap.size w w' := by
  exact good_any none 0 c [] w rfl ⟨.inl rfl, by intro p hp; cases hp⟩ (by simp [allB]) (by omega)
theorem good_two (hB : B = w.heap.size) (hl1 : l1.length = n1) (hl2 : l2.length = n2) (h1 : Part.ok w ⟨a1, c1, l1⟩) (h2 : Part.ok w ⟨a2, c2, l2⟩) (hs : n1 + n2 ≤ 1099511627776) :
    Calls Tryd.prog 59 #[.slice (some ⟨B, 0, none⟩) 2 2] (w.alloc (.cells #[.slice a1 n1 c1, .slice a2 n2 c2] 25)) fun e w' => e = .returned (.bool (decide (S.fold (S.wv false (l1 ++ l2)) = 65535))) ∧ Below w.heap.size w w' := by
  subst hB hl1 hl2
  have := good_any (some ⟨w.heap.size, 0, none⟩) 2 2 [⟨a1, c1, l1⟩, ⟨a2, c2, l2⟩] _ rfl (parts_new w [⟨a1, c1, l1⟩, ⟨a2, c2, l2⟩] 25 (by intro p hp; simp at hp; rcases hp with rfl | rfl; exact h1; exact h2)) (by simp [allB]; omega) (by omega)
  simp only [allB, List.flatMap_cons, List.flatMap_nil, List.append_nil] at this
  exact this.mono (fun e w' h => ⟨h.1, below_new h.2⟩)
end


section
variable (w : World) (B : Nat) (a1 a2 : Option Addr) (n1 n2 c1 c2 : Nat) (l1 l2 : List Nat)
theorem check_two (hB : B = w.heap.size) (hl1 : l1.length = n1) (hl2 : l2.length = n2) (h1 : Part.ok w ⟨a1, c1, l1⟩) (h2 : Part.ok w ⟨a2, c2, l2⟩) (hs : n1 + n2 ≤ 1099511627776) :
    Calls Tryd.prog 47 #[.slice (some ⟨B, 0, none⟩) 2 2] (w.alloc (.cells #[.slice a1 n1 c1, .slice a2 n2 c2] 25)) fun e w' => e = .returned (.int .i64 ((65535 - S.fold (S.wv false (l1 ++ l2)) : Nat) : Int)) ∧ Below w.heap.size w w' := by
  subst hB hl1 hl2
  have := check_any (some ⟨w.heap.size, 0, none⟩) 2 2 [⟨a1, c1, l1⟩, ⟨a2, c2, l2⟩] _ rfl (parts_new w [⟨a1, c1, l1⟩, ⟨a2, c2, l2⟩] 25 (by intro p hp; simp at hp; rcases hp with rfl | rfl; exact h1; exact h2)) (by simp [allB]; omega) (by omega)
  simp only [allB, List.flatMap_cons, List.flatMap_nil, List.append_nil] at this
  exact this.mono (fun e w' h => ⟨h.1, below_new h.2⟩)
end


def isW (x : Int) : Bool := decide (0 ≤ x ∧ x ≤ 65535)
theorem isWord_any (x : Int) (w : World) : Calls Tryd.prog 69 #[.int .i64 x] w fun e w' => e = .returned (.bool (isW x)) ∧ w = w' := by
  by_cases h1 : 0 ≤ x
  · go_enter Tryd.func69, Tryd.ntmps69
    go_wp2
    go_ret
    exact ⟨congrArg (fun b => Ending.returned (.bool b)) (by simp [isW, h1]), rfl⟩
  · go_enter Tryd.func69, Tryd.ntmps69
    go_wp2
    go_ret
    exact ⟨congrArg (fun b => Ending.returned (.bool b)) (by simp [isW]; omega), rfl⟩

theorem check_three (w : World) (B : Nat) (a1 a2 a3 : Option Addr) (n1 n2 n3 c1 c2 c3 : Nat) (l1 l2 l3 : List Nat) (hB : B = w.heap.size) (hl1 : l1.length = n1) (hl2 : l2.length = n2) (hl3 : l3.length = n3) (h1 : Part.ok w ⟨a1, c1, l1⟩) (h2 : Part.ok w ⟨a2, c2, l2⟩) (h3 : Part.ok w ⟨a3, c3, l3⟩) (hs : n1 + n2 + n3 ≤ 1099511627776) :
    Calls Tryd.prog 47 #[.slice (some ⟨B, 0, none⟩) 3 3] (w.alloc (.cells #[.slice a1 n1 c1, .slice a2 n2 c2, .slice a3 n3 c3] 25)) fun e w' => e = .returned (.int .i64 ((65535 - S.fold (S.wv false (l1 ++ (l2 ++ l3))) : Nat) : Int)) ∧ Below w.heap.size w w' := by
  subst hB hl1 hl2 hl3
  have := check_any (some ⟨w.heap.size, 0, none⟩) 3 3 [⟨a1, c1, l1⟩, ⟨a2, c2, l2⟩, ⟨a3, c3, l3⟩] _ rfl (parts_new w [⟨a1, c1, l1⟩, ⟨a2, c2, l2⟩, ⟨a3, c3, l3⟩] 25 (by intro p hp; simp at hp; rcases hp with rfl | rfl | rfl; exact h1; exact h2; exact h3)) (by simp [allB]; omega) (by omega)
  simp only [allB, List.flatMap_cons, List.flatMap_nil, List.append_nil] at this
  exact this.mono (fun e w' h => ⟨h.1, below_new h.2⟩)
theorem owns_seg_at {w : World} {base : Nat} {e : TypeId} {g : Option Addr} {n c : Nat} {k : IntKind} {zs : List Int} (h : w.ownsRow base e 1 (.slice g n c) n (zs.map (Value.int k))) : Seg k w g zs ∧ n ≤ c ∧ c ≤ 9223372036854775807 := by
  obtain ⟨a, c', e1, hs, _, h1, h2⟩ := owns_seg h
  simp only [Value.slice.injEq, true_and] at e1
  rw [e1.1, e1.2]
  exact ⟨hs, h1, by unfold maxLen at h2; exact h2⟩
abbrev OwnB (w : World) (B : Nat) (v : Value) (n : Nat) (l : List Nat) : Prop := w.ownsRow B 5 1 v n ((toI l).map (Value.int .u8))
theorem OwnB.len {w : World} {B : Nat} {v : Value} {n : Nat} {l : List Nat} (h : OwnB w B v n l) : l.length = n := by have := h.1; simpa [toI] using this
theorem OwnB.part {w : World} {B : Nat} {g : Option Addr} {n c : Nat} {l : List Nat} (h : OwnB w B (.slice g n c) n l) (h256 : ∀ x ∈ l, x < 256) : Part.ok w ⟨g, c, l⟩ := by
  obtain ⟨h1, h2, h3⟩ := owns_seg_at h
  exact ⟨h1, h256, by show l.length ≤ c; rw [h.len]; exact h2, h3⟩
end Go.Proofs.YtfoeepbndfnifaaDoor
