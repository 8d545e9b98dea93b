/-
  weirref4: Valid, width, bit.
-/
/-
  weirref4: a prefix; ValidPrefix, Contains.
-/
/-
  weirref4: Contains.
-/
/-
  weirref4: ParseIP of a right text (of version 6: without a dot).
-/
/-
  weirref4: ParsePrefix of a right text; of.
-/
/-
  weirref4: of, with a right text; the twelve texts of Class.
-/
/-
  weirref4: Class.
-/
import Derived.Test.YteldiggaooeeeaaGreatDoorZba
import Derived.Test.YteldiggaooeeeaaGreatDoorAdFn1
namespace Go.Proofs.YteldiggaooeeeaaGreatDoor
open Go.RowKit Go.Maps

theorem ip_byte (V : Int) (x : Nat → Nat) (k : Nat) (h : k < 16) : (ipCells V x)[k + 1]? = some (.int .u8 (x k : Nat)) := by
  have : k = 0 ∨ k = 1 ∨ k = 2 ∨ k = 3 ∨ k = 4 ∨ k = 5 ∨ k = 6 ∨ k = 7 ∨ k = 8 ∨ k = 9 ∨ k = 10 ∨ k = 11 ∨ k = 12 ∨ k = 13 ∨ k = 14 ∨ k = 15 := by omega
  rcases this with rfl | rfl | rfl | rfl | rfl | rfl | rfl | rfl | rfl | rfl | rfl | rfl | rfl | rfl | rfl | rfl <;> rfl
theorem IprAt.byte {w : World} {O : Nat} {V : Int} {x : Nat → Nat} (h : IprAt w O V x) (k : Nat) (hk : k < 16) : w.cell? ⟨O, 1 + k, none⟩ = some (.int .u8 (x k : Nat)) := by
  rw [Nat.add_comm]; exact (h.cell (k + 1)).trans (ip_byte V x k hk)
theorem IprAt.ver {w : World} {O : Nat} {V : Int} {x : Nat → Nat} (h : IprAt w O V x) : w.cell? ⟨O, 0, none⟩ = some (.int .i64 V) := h.cell 0
/-- is it an address? -/
def vR (V : Int) (x : Nat → Nat) : Bool := if V == 4 then (List.range 12).all fun i => x (4 + i) == 0 else V == 6
theorem vR_no {x : Nat → Nat} {k : Nat} (h1 : 4 ≤ k) (h2 : k < 16) (h : x k ≠ 0) : ((List.range 12).all fun i => x (4 + i) == 0) = false := by
  rw [List.all_eq_false]
  exact ⟨k - 4, List.mem_range.2 (by omega), by rw [show 4 + (k - 4) = k by omega]; simp [h]⟩
theorem vR_yes {x : Nat → Nat} (h : ∀ i, 4 ≤ i → i < 16 → x i = 0) : ((List.range 12).all fun i => x (4 + i) == 0) = true := by
  rw [List.all_eq_true]
  intro i hi
  have := List.mem_range.1 hi
  simp [h (4 + i) (by omega) (by omega)]
set_option maxHeartbeats 1600000 in
set_option maxRecDepth 100000 in
theorem validR_any (V : Int) (x : Nat → Nat) (w : World) : Calls Tryz.prog 52 #[.agg (ipCells V x)] w fun r w' => r = .returned (.bool (vR V x)) ∧ Below w.heap.size w w' := by
  have hb := ipr_new w V x
  have bel : Below w.heap.size w (w.alloc (.cells (ipCells V x) 28)) := (Below.refl _ _).alloc (Nat.le_refl _) _
  obtain ⟨CX, hC⟩ : ∃ C, C = ipCells V x := ⟨_, rfl⟩
  obtain ⟨W, hW⟩ : ∃ W_, W_ = w.alloc (.cells (ipCells V x) 28) := ⟨_, rfl⟩
  rw [← hW] at hb bel
  have HSZX : Hid (W.heap.size = w.heap.size + 1) := by show _ = _; rw [hW, World.size_alloc]
  obtain ⟨B, hB⟩ : ∃ B, B = w.heap.size := ⟨_, rfl⟩
  rw [← hB] at hb
  have HBX : Hid (IprAt W B V x) := hb
  rw [← hC] at hW ⊢
  have HOX : Hid (w.heap.size = B) := hB.symm
  have HLX : Hid (Below w.heap.size w W) := bel
  have HWX : Hid (w.alloc (.cells CX 28) = W) := hW.symm
  clear hb hW hB hC bel
  have c0 := HBX.out.ver
  go_enter Tryz.func52, Tryz.ntmps52
  by_cases h4 : V = 4
  · subst h4
    go_wp2_with (rw [HOX.out, HWX.out])
    go_loopw [3] (fun ix wr => ∃ k : Nat, 4 ≤ k ∧ k ≤ 16 ∧ ix = .int .i64 (k : Nat) ∧ (∀ i, 4 ≤ i → i < k → x i = 0) ∧ W = wr) (fun ix _ => 16 - (intOf ix).toNat)
    case atStart => exact ⟨4, by omega, by omega, rfl, fun i h1 h2 => by omega, rfl⟩
    case round =>
      obtain ⟨k, hk1, hk2, rfl, hN, rfl⟩ := hrel
      have HN : Hid (∀ i, 4 ≤ i → i < k → x i = 0) := hN
      have HK : Hid (4 ≤ k) := hk1
      clear hN hk1
      by_cases hlt : k < 16
      · have q1 : decide ((k : Int) < 16) = true := decide_eq_true (by omega)
        have l1 : (k : Int) < 16 := by omega
        have w1 : IntKind.i64.wrap ((k : Int) + 1) = (k : Int) + 1 := i64_s _ (by omega) (by omega)
        have h0 := HBX.out.byte k hlt
        have HLT : Hid (k < 16) := hlt
        by_cases he : x k = 0
        · have qe : (((x k : Nat) : Int) == 0) = true := by simp [he]
          have qn : (((x k : Nat) : Int) != 0) = false := by simp [he]
          have HE : Hid (x k = 0) := he
          clear he
          go_wp2
          go_roundw
          case rel => exact ⟨k + 1, by have := HK.out; omega, HLT.out, by simp, fun i h1 h2 => if h : i = k then h ▸ HE.out else HN.out i h1 (by omega), by first | rfl | trivial⟩
          case measure => have := HLT.out; simp [intOf]; omega
        · have qe : (((x k : Nat) : Int) == 0) = false := by simp [he]
          have qn : (((x k : Nat) : Int) != 0) = true := by simp [he]
          have HR : Hid (vR 4 x = false) := by show _ = _; unfold vR; refine Eq.trans (if_pos (by decide)) ?_; exact vR_no HK.out HLT.out he
          clear he
          go_wp2
          go_ret
          exact ⟨by rw [HR.out]; rfl, HLX.out⟩
      · have q1 : decide ((k : Int) < 16) = false := decide_eq_false (by omega)
        have l1 : ¬ (k : Int) < 16 := by omega
        have HR : Hid (vR 4 x = true) := by show _ = _; unfold vR; refine Eq.trans (if_pos (by decide)) ?_; exact vR_yes (fun i h1 h2 => HN.out i h1 (by omega))
        clear hlt
        go_wp2
        go_ret
        exact ⟨by rw [HR.out]; rfl, HLX.out⟩
  · have q4 : (V == 4) = false := by simp [h4]
    have q5 : (V != 4) = true := by simp [h4]
    have HR : Hid (vR V x = (V == 6)) := by show _ = _; unfold vR; rw [q4]; rfl
    clear h4
    go_wp2_with (rw [HOX.out, HWX.out])
    go_ret
    exact ⟨by rw [HR.out]; rfl, HLX.out⟩
/-- how many bits it has -/
def wdN (V : Int) : Nat := if V == 4 then 32 else 128
set_option maxHeartbeats 1600000 in
set_option maxRecDepth 100000 in
theorem width_any (V : Int) (x : Nat → Nat) (w : World) : Calls Tryz.prog 82 #[.agg (ipCells V x)] w fun r w' => r = .returned (.int .i64 (wdN V : Nat)) ∧ Below w.heap.size w w' := by
  have hb := ipr_new w V x
  have bel : Below w.heap.size w (w.alloc (.cells (ipCells V x) 28)) := (Below.refl _ _).alloc (Nat.le_refl _) _
  obtain ⟨CX, hC⟩ : ∃ C, C = ipCells V x := ⟨_, rfl⟩
  obtain ⟨W, hW⟩ : ∃ W_, W_ = w.alloc (.cells (ipCells V x) 28) := ⟨_, rfl⟩
  rw [← hW] at hb bel
  have HSZX : Hid (W.heap.size = w.heap.size + 1) := by show _ = _; rw [hW, World.size_alloc]
  obtain ⟨B, hB⟩ : ∃ B, B = w.heap.size := ⟨_, rfl⟩
  rw [← hB] at hb
  have HBX : Hid (IprAt W B V x) := hb
  rw [← hC] at hW ⊢
  have HOX : Hid (w.heap.size = B) := hB.symm
  have HLX : Hid (Below w.heap.size w W) := bel
  have HWX : Hid (w.alloc (.cells CX 28) = W) := hW.symm
  clear hb hW hB hC bel
  have c0 := HBX.out.ver
  go_enter Tryz.func82, Tryz.ntmps82
  by_cases h4 : V = 4
  · subst h4
    go_wp2_with (rw [HOX.out, HWX.out])
    go_ret
    exact ⟨rfl, HLX.out⟩
  · have q4 : (V == 4) = false := by simp [h4]
    have HR : Hid (wdN V = 128) := by show _ = _; unfold wdN; rw [q4]; rfl
    clear h4
    go_wp2_with (rw [HOX.out, HWX.out])
    go_ret
    exact ⟨by rw [HR.out]; rfl, HLX.out⟩
/-- the i-th bit -/
def btN (x : Nat → Nat) (i : Nat) : Nat := x (i / 8) / 2 ^ (7 - i % 8) % 2
set_option maxHeartbeats 1600000 in
set_option maxRecDepth 100000 in
theorem bit_any (V : Int) (x : Nat → Nat) (i : Nat) (w : World) (hi : i < 128) (hx : ∀ i, i < 16 → x i < 256) : Calls Tryz.prog 90 #[.agg (ipCells V x), .int .i64 (i : Nat)] w fun r w' => r = .returned (.int .i64 (btN x i : Nat)) ∧ Below w.heap.size w w' := by
  have hb := ipr_new w V x
  have bel : Below w.heap.size w (w.alloc (.cells (ipCells V x) 28)) := (Below.refl _ _).alloc (Nat.le_refl _) _
  obtain ⟨CX, hC⟩ : ∃ C, C = ipCells V x := ⟨_, rfl⟩
  obtain ⟨W, hW⟩ : ∃ W_, W_ = w.alloc (.cells (ipCells V x) 28) := ⟨_, rfl⟩
  rw [← hW] at hb bel
  have HSZX : Hid (W.heap.size = w.heap.size + 1) := by show _ = _; rw [hW, World.size_alloc]
  obtain ⟨B, hB⟩ : ∃ B, B = w.heap.size := ⟨_, rfl⟩
  rw [← hB] at hb
  have HBX : Hid (IprAt W B V x) := hb
  rw [← hC] at hW ⊢
  have HOX : Hid (w.heap.size = B) := hB.symm
  have HLX : Hid (Below w.heap.size w W) := bel
  have HWX : Hid (w.alloc (.cells CX 28) = W) := hW.symm
  clear hb hW hB hC bel
  obtain ⟨j, hj⟩ : ∃ j, j = i / 8 := ⟨_, rfl⟩
  obtain ⟨m, hm⟩ : ∃ m, m = i % 8 := ⟨_, rfl⟩
  have HJ : Hid (j = i / 8) := hj
  have HM : Hid (m = i % 8) := hm
  have hj16 : j < 16 := by omega
  have h0 := HBX.out.byte j hj16
  have HX8 : Hid (x j < 256) := hx j hj16
  have t1 : Int.tdiv (i : Int) 8 = (j : Int) := by rw [Int.tdiv_eq_ediv_of_nonneg (by omega)]; omega
  have t2 : Int.tmod (i : Int) 8 = (m : Int) := by rw [Int.tmod_eq_emod_of_nonneg (by omega)]; omega
  have l1 : (j : Int) < 16 := by omega
  have wj : IntKind.i64.wrap (j : Int) = (j : Int) := i64_s _ (by omega) (by omega)
  have wm : IntKind.i64.wrap (m : Int) = (m : Int) := i64_s _ (by omega) (by omega)
  have wx : IntKind.i64.wrap ((x j : Nat) : Int) = ((x j : Nat) : Int) := i64_s _ (by omega) (by have := HX8.out; omega)
  clear hj hm hi hx
  go_enter Tryz.func90, Tryz.ntmps90
  go_wp2_with (rw [HOX.out, HWX.out])
  have HM7 : Hid (m ≤ 7) := by have := HM.out; show m ≤ 7; omega
  go_loopw [5, 6] (fun cv ix wr => ∃ k c : Nat, m ≤ k ∧ k ≤ 7 ∧ cv = .int .i64 (c : Nat) ∧ ix = .int .i64 (k : Nat) ∧ Hid (c = x j / 2 ^ (k - m)) ∧ c < 256 ∧ W = wr) (fun _ ix _ => 7 - (intOf ix).toNat)
  case atStart => exact ⟨m, x j, Nat.le_refl _, HM7.out, rfl, rfl, by show _ = _; simp, HX8.out, rfl⟩
  case round =>
    obtain ⟨k, c, hk1, hk2, rfl, rfl, HC, hc, rfl⟩ := hrel
    have HK : Hid (m ≤ k ∧ k ≤ 7 ∧ c < 256) := ⟨hk1, hk2, hc⟩
    clear hk1 hk2 hc
    by_cases hlt : k < 7
    · have q1 : decide ((k : Int) < 7) = true := decide_eq_true (by omega)
      have l2 : (k : Int) < 7 := by omega
      have w1 : IntKind.i64.wrap ((k : Int) + 1) = (k : Int) + 1 := i64_s _ (by omega) (by omega)
      obtain ⟨d, hd⟩ : ∃ d, d = c / 2 := ⟨_, rfl⟩
      have HD : Hid (d = c / 2) := hd
      have t3 : Int.tdiv (c : Int) 2 = (d : Int) := by rw [Int.tdiv_eq_ediv_of_nonneg (by omega)]; omega
      have w2 : IntKind.i64.wrap (d : Int) = (d : Int) := i64_s _ (by omega) (by have := HK.out; omega)
      have HLT : Hid (k < 7) := hlt
      clear hlt hd
      go_wp2
      go_roundw
      case rel =>
        refine ⟨k + 1, d, by have := HK.out; omega, HLT.out, by simp, by simp, ?_, by have := HK.out; have := HD.out; omega, by first | rfl | trivial⟩
        show _ = _
        rw [HD.out, HC.out, show k + 1 - m = (k - m) + 1 by have := HK.out; omega, Nat.pow_succ, Nat.div_div_eq_div_mul]
      case measure => have := HLT.out; simp [intOf]; omega
    · have q1 : decide ((k : Int) < 7) = false := decide_eq_false (by omega)
      have l2 : ¬ (k : Int) < 7 := by omega
      obtain ⟨d, hd⟩ : ∃ d, d = c % 2 := ⟨_, rfl⟩
      have HD : Hid (d = c % 2) := hd
      have t3 : Int.tmod (c : Int) 2 = (d : Int) := by rw [Int.tmod_eq_emod_of_nonneg (by omega)]; omega
      have w2 : IntKind.i64.wrap (d : Int) = (d : Int) := i64_s _ (by omega) (by omega)
      have HR : Hid (btN x i = d) := by
        show _ = _
        unfold btN
        rw [← HJ.out, ← HM.out, HD.out, HC.out, show k = 7 by have := HK.out; omega]
      clear hlt hd
      go_wp2
      go_ret
      exact ⟨by rw [HR.out]; rfl, HLX.out⟩
end Go.Proofs.YteldiggaooeeeaaGreatDoor
namespace Go.Proofs.YteldiggaooeeeaaGreatDoor
open Go.RowKit Go.Maps

def pv0 : PV := ⟨0, fun _ => 0, 0⟩
theorem PfxAt.len {w : World} {O : Nat} {p : PV} (h : PfxAt w O p) : w.cell? ⟨O, 17, none⟩ = some (.int .i64 p.n) := h.cell 17
theorem PfxAt.ver {w : World} {O : Nat} {p : PV} (h : PfxAt w O p) : w.cell? ⟨O, 0, none⟩ = some (.int .i64 p.V) := h.cell 0
/-- the error of a prefix -/
def vpR (p : PV) : Nat := if vR p.V p.x then (if decide (p.n < 0) || decide ((wdN p.V : Int) < p.n) then 45 else if (List.range (wdN p.V)).any fun i => decide (p.n ≤ (i : Int)) && btN p.x i == 1 then 46 else 0) else 40
theorem wdN_le (V : Int) : wdN V ≤ 128 := by unfold wdN; split <;> omega
set_option maxHeartbeats 1600000 in
set_option maxRecDepth 100000 in
theorem validPrefixR_any (p : PV) (w : World) (hx : ∀ i, i < 16 → p.x i < 256) : Calls Tryz.prog 54 #[.agg (pfC p)] w fun r w' => r = .returned (.int .i64 (vpR p : Nat)) ∧ Below w.heap.size w w' := by
  have hb := pfx_new w p
  have bel : Below w.heap.size w (w.alloc (.cells (pfC p) 38)) := (Below.refl _ _).alloc (Nat.le_refl _) _
  obtain ⟨CX, hC⟩ : ∃ C, C = pfC p := ⟨_, rfl⟩
  obtain ⟨W, hW⟩ : ∃ W_, W_ = w.alloc (.cells (pfC p) 38) := ⟨_, rfl⟩
  rw [← hW] at hb bel
  have HSZX : Hid (W.heap.size = w.heap.size + 1) := by show _ = _; rw [hW, World.size_alloc]
  obtain ⟨B, hB⟩ : ∃ B, B = w.heap.size := ⟨_, rfl⟩
  rw [← hB] at hb
  have HBX : Hid (PfxAt W B p) := hb
  rw [← hC] at hW ⊢
  have HOX : Hid (w.heap.size = B) := hB.symm
  have HLX : Hid (Below w.heap.size w W) := bel
  have HWX : Hid (w.alloc (.cells CX 38) = W) := hW.symm
  clear hb hW hB hC bel
  have HX : Hid (∀ i, i < 16 → p.x i < 256) := hx
  clear hx
  obtain ⟨b, hb⟩ : ∃ b, vR p.V p.x = b := ⟨_, rfl⟩
  have HB : Hid (vR p.V p.x = b) := hb
  clear hb
  go_enter Tryz.func54, Tryz.ntmps54
  go_wp2_with (first | (rw [HOX.out, HWX.out]) | (refine wpList_mid_ipr (.tmp 6) rfl B 0 p.V p.x rfl HBX.out.ip rfl ?_))
  refine (validR_any p.V p.x W).mono ?_
  rintro e w1 ⟨rfl, b1⟩
  rw [HB.out]
  have H1 : Hid (PfxAt w1 B p ∧ Below w.heap.size w w1) := ⟨HBX.out.below b1, bthen HLX.out b1⟩
  clear b1
  cases b with
  | false =>
    have HR : Hid (vpR p = 40) := by show _ = _; unfold vpR; rw [HB.out]; rfl
    go_wp2_with fail
    go_ret
    exact ⟨by rw [HR.out]; rfl, H1.out.2⟩
  | true =>
    go_wp2_with (first | (refine wpList_mid_ipr (.tmp 11) rfl B 0 p.V p.x rfl H1.out.1.ip rfl ?_))
    refine (width_any p.V p.x w1).mono ?_
    rintro e w2 ⟨rfl, b2⟩
    have H2 : Hid (PfxAt w2 B p ∧ Below w.heap.size w w2) := ⟨H1.out.1.below b2, bthen H1.out.2 b2⟩
    clear b2 H1
    obtain ⟨wd, hwd⟩ : ∃ wd, wdN p.V = wd := ⟨_, rfl⟩
    have HWD : Hid (wdN p.V = wd) := hwd
    have HW8 : Hid (wd ≤ 128) := by show wd ≤ 128; rw [← hwd]; exact wdN_le _
    rw [hwd]
    clear hwd
    have c17 := H2.out.1.len
    obtain ⟨n, hn⟩ : ∃ n, p.n = n := ⟨_, rfl⟩
    have HN : Hid (p.n = n) := hn
    rw [hn] at c17
    clear hn
    by_cases h1 : n < 0
    · have q1 : decide (n < 0) = true := decide_eq_true h1
      have HR : Hid (vpR p = 45) := by show _ = _; unfold vpR; rw [HB.out, HN.out, q1]; rfl
      clear h1
      go_wp2
      go_ret
      exact ⟨by rw [HR.out]; rfl, H2.out.2⟩
    · have q1 : decide (n < 0) = false := decide_eq_false h1
      by_cases h2 : (wd : Int) < n
      · have q2 : decide ((wd : Int) < n) = true := decide_eq_true h2
        have HR : Hid (vpR p = 45) := by show _ = _; unfold vpR; rw [HB.out, HN.out, HWD.out, q1, q2]; rfl
        clear h1 h2
        go_wp2
        go_ret
        exact ⟨by rw [HR.out]; rfl, H2.out.2⟩
      · have q2 : decide ((wd : Int) < n) = false := decide_eq_false h2
        obtain ⟨m, hm⟩ : ∃ m : Nat, n = (m : Int) := ⟨n.toNat, by omega⟩
        subst hm
        have HR : Hid (vpR p = if (List.range wd).any fun i => decide ((m : Int) ≤ (i : Int)) && btN p.x i == 1 then 46 else 0) := by show _ = _; unfold vpR; rw [HB.out, HN.out, HWD.out, q1, q2]; rfl
        have HM : Hid (m ≤ wd) := by show m ≤ wd; omega
        have q3 : decide (wd < m) = false := decide_eq_false (by have := HM.out; omega)
        clear h1 h2
        go_wp2
        go_loopw [5] (fun ix wr => ∃ k : Nat, m ≤ k ∧ k ≤ wd ∧ ix = .int .i64 (k : Nat) ∧ (∀ i, m ≤ i → i < k → btN p.x i ≠ 1) ∧ Hid (PfxAt wr B p ∧ Below w.heap.size w wr)) (fun ix _ => wd - (intOf ix).toNat)
        case atStart => exact ⟨m, Nat.le_refl _, HM.out, rfl, fun i h1 h2 => by omega, H2.out⟩
        case round =>
          obtain ⟨k, hk1, hk2, rfl, hN, H3⟩ := hrel
          have HNK : Hid (∀ i, m ≤ i → i < k → btN p.x i ≠ 1) := hN
          have HK : Hid (m ≤ k ∧ k ≤ wd) := ⟨hk1, hk2⟩
          clear hN hk1 hk2 c17
          by_cases hlt : k < wd
          · have p1 : decide ((k : Int) < (wd : Int)) = true := decide_eq_true (by omega)
            have p0 : decide (k < wd) = true := decide_eq_true hlt
            have w1 : IntKind.i64.wrap ((k : Int) + 1) = (k : Int) + 1 := i64_s _ (by omega) (by have := HW8.out; omega)
            have HLT : Hid (k < wd) := hlt
            clear hlt
            go_wp2_with (refine wpList_mid_ipr (.tmp 30) rfl B 0 p.V p.x rfl H3.out.1.ip rfl ?_)
            refine (bit_any p.V p.x k wr (by have h1 := HLT.out; have h2 := HW8.out; omega) HX.out).mono ?_
            rintro e w4 ⟨rfl, b4⟩
            have H4 : Hid (PfxAt w4 B p ∧ Below w.heap.size w w4) := ⟨H3.out.1.below b4, bthen H3.out.2 b4⟩
            clear b4 H3
            by_cases he : btN p.x k = 1
            · have qe : (((btN p.x k : Nat) : Int) == 1) = true := by simp [he]
              have HZ : Hid (vpR p = 46) := by
                show _ = _
                rw [HR.out, if_pos]
                rw [List.any_eq_true]
                exact ⟨k, List.mem_range.2 HLT.out, by have := HK.out; simp [he]; omega⟩
              clear he
              go_wp2
              go_ret
              exact ⟨by rw [HZ.out]; rfl, H4.out.2⟩
            · have qe : (((btN p.x k : Nat) : Int) == 1) = false := by simp; omega
              have HE : Hid (btN p.x k ≠ 1) := he
              clear he
              go_wp2
              go_roundw
              case rel => exact ⟨k + 1, by have := HK.out; omega, HLT.out, by simp, fun i h1 h2 => if h : i = k then h ▸ HE.out else HNK.out i h1 (by omega), H4.out⟩
              case measure => have := HLT.out; simp [intOf]; omega
          · have p1 : decide ((k : Int) < (wd : Int)) = false := decide_eq_false (by omega)
            have p0 : decide (k < wd) = false := decide_eq_false hlt
            have HZ : Hid (vpR p = 0) := by
              show _ = _
              rw [HR.out, if_neg]
              rw [Bool.not_eq_true, List.any_eq_false]
              intro i hi
              have h1 := List.mem_range.1 hi
              by_cases h2 : m ≤ i
              · simp [HNK.out i h2 (by omega)]
              · simp; omega
            clear hlt
            go_wp2
            go_ret
            exact ⟨by rw [HZ.out]; rfl, H3.out.2⟩
end Go.Proofs.YteldiggaooeeeaaGreatDoor
namespace Go.Proofs.YteldiggaooeeeaaGreatDoor
open Go.RowKit Go.Maps

theorem IprAt.rng {w : World} {O : Nat} {V : Int} {x : Nat → Nat} (h : IprAt w O V x) : w.rangeAt O 0 (ipCells V x).toList := by
  intro j v hj
  rw [h.cell, Nat.zero_add, ← Array.getElem?_toList]
  exact hj
/-- does the address lie in the prefix? -/
def cnR (p : PV) (V : Int) (x : Nat → Nat) : Bool := vpR p == 0 && vR V x && p.V == V && (List.range p.n.toNat).all fun i => btN p.x i == btN x i
theorem vpR_zero {p : PV} (h : vpR p = 0) : 0 ≤ p.n ∧ p.n ≤ 128 := by
  unfold vpR at h
  have := wdN_le p.V
  split at h
  · split at h
    · cases h
    · rename_i h2
      simp at h2
      omega
  · cases h
set_option maxHeartbeats 1600000 in
set_option maxRecDepth 100000 in
theorem containsR_any (p : PV) (V : Int) (x : Nat → Nat) (w : World) (hp : ∀ i, i < 16 → p.x i < 256) (hx : ∀ i, i < 16 → x i < 256) : Calls Tryz.prog 58 #[.agg (pfC p), .agg (ipCells V x)] w fun r w' => r = .returned (.bool (cnR p V x)) ∧ Below w.heap.size w w' := by
  have hb := pfx_new w p
  have bel : Below w.heap.size w (w.alloc (.cells (pfC p) 38)) := (Below.refl _ _).alloc (Nat.le_refl _) _
  obtain ⟨CX, hC⟩ : ∃ C, C = pfC p := ⟨_, rfl⟩
  obtain ⟨W, hW⟩ : ∃ W_, W_ = w.alloc (.cells (pfC p) 38) := ⟨_, rfl⟩
  rw [← hW] at hb bel
  have HSZX : Hid (W.heap.size = w.heap.size + 1) := by show _ = _; rw [hW, World.size_alloc]
  obtain ⟨B, hB⟩ : ∃ B, B = w.heap.size := ⟨_, rfl⟩
  rw [← hB] at hb
  have HBX : Hid (PfxAt W B p) := hb
  rw [← hC] at hW ⊢
  have HOX : Hid (w.heap.size = B) := hB.symm
  have HLX : Hid (Below w.heap.size w W) := bel
  have HWX : Hid (w.alloc (.cells CX 38) = W) := hW.symm
  clear hb hW hB hC bel
  have hb := ipr_new W V x
  have bel : Below W.heap.size W (W.alloc (.cells (ipCells V x) 28)) := (Below.refl _ _).alloc (Nat.le_refl _) _
  obtain ⟨CY, hC⟩ : ∃ C, C = ipCells V x := ⟨_, rfl⟩
  obtain ⟨Y, hW⟩ : ∃ W_, W_ = W.alloc (.cells (ipCells V x) 28) := ⟨_, rfl⟩
  rw [← hW] at hb bel
  have HSZY : Hid (Y.heap.size = W.heap.size + 1) := by show _ = _; rw [hW, World.size_alloc]
  obtain ⟨I, hB⟩ : ∃ B, B = W.heap.size := ⟨_, rfl⟩
  rw [← hB] at hb
  have HBY : Hid (IprAt Y I V x) := hb
  rw [← hC] at hW ⊢
  have HOY : Hid (W.heap.size = I) := hB.symm
  have HLY : Hid (Below W.heap.size W Y) := bel
  have HWY : Hid (W.alloc (.cells CY 28) = Y) := hW.symm
  clear hb hW hB hC bel
  have HPX : Hid (∀ i, i < 16 → p.x i < 256) := hp
  have HXX : Hid (∀ i, i < 16 → x i < 256) := hx
  have H0 : Hid (PfxAt Y B p ∧ IprAt Y I V x ∧ Below w.heap.size w Y) := ⟨HBX.out.below HLY.out, HBY.out, bthen HLX.out HLY.out⟩
  clear hp hx
  obtain ⟨e, he⟩ : ∃ e, vpR p = e := ⟨_, rfl⟩
  have HE : Hid (vpR p = e) := he
  obtain ⟨b, hb⟩ : ∃ b, vR V x = b := ⟨_, rfl⟩
  have HB : Hid (vR V x = b) := hb
  clear he hb
  go_enter Tryz.func58, Tryz.ntmps58
  go_wp2_with (first | (rw [HOX.out, HWX.out]) | (rw [HOY.out, HWY.out]) | (refine wpList_load_pfx (.tmp 2) rfl B p rfl H0.out.1 rfl ?_))
  refine (validPrefixR_any p Y HPX.out).mono ?_
  rintro e1 w1 ⟨rfl, b1⟩
  rw [HE.out]
  have H1 : Hid (PfxAt w1 B p ∧ IprAt w1 I V x ∧ Below w.heap.size w w1) := ⟨H0.out.1.below b1, H0.out.2.1.below b1, bthen H0.out.2.2 b1⟩
  clear b1 H0
  go_wp2_with (first | (refine wpList_load_ipr (.tmp 3) rfl I V x rfl H1.out.2.1 rfl ?_))
  refine (validR_any V x w1).mono ?_
  rintro e1 w2 ⟨rfl, b2⟩
  rw [HB.out]
  have H2 : Hid (PfxAt w2 B p ∧ IprAt w2 I V x ∧ Below w.heap.size w w2) := ⟨H1.out.1.below b2, H1.out.2.1.below b2, bthen H1.out.2.2 b2⟩
  clear b2 H1
  have cp := H2.out.1.ver
  have ci := H2.out.2.1.ver
  by_cases h0 : e = 0
  · subst h0
    cases b with
    | false =>
      have HR : Hid (cnR p V x = false) := by show _ = _; unfold cnR; rw [HB.out]; simp
      go_wp2
      go_ret
      exact ⟨by rw [HR.out]; rfl, H2.out.2.2⟩
    | true =>
      by_cases hv : p.V = V
      · have q1 : (p.V == V) = true := by simp [hv]
        have q2 : (p.V != V) = false := by simp [hv]
        have HR : Hid (cnR p V x = (List.range p.n.toNat).all fun i => btN p.x i == btN x i) := by show _ = _; unfold cnR; rw [HB.out, HE.out, q1]; rfl
        clear hv
        obtain ⟨n, hn⟩ : ∃ n : Nat, p.n = (n : Int) := ⟨p.n.toNat, by have := vpR_zero HE.out; omega⟩
        have HN : Hid (p.n = (n : Int)) := hn
        have H128 : Hid (n ≤ 128) := by have := vpR_zero HE.out; show n ≤ 128; omega
        have HR2 : Hid (cnR p V x = (List.range n).all fun i => btN p.x i == btN x i) := by show _ = _; rw [HR.out, hn]; rfl
        clear hn HR
        go_wp2
        go_loopw [7] (fun ix wr => ∃ k : Nat, k ≤ n ∧ ix = .int .i64 (k : Nat) ∧ (∀ i, i < k → btN p.x i = btN x i) ∧ Hid (PfxAt wr B p ∧ IprAt wr I V x ∧ Below w.heap.size w wr)) (fun ix _ => n - (intOf ix).toNat)
        case atStart => exact ⟨0, by omega, rfl, fun i h => by omega, H2.out⟩
        case round =>
          obtain ⟨k, hk, rfl, hN, H3⟩ := hrel
          have HNK : Hid (∀ i, i < k → btN p.x i = btN x i) := hN
          clear hN cp ci
          have c17 : wr.cell? ⟨B, 17, none⟩ = some (.int .i64 (n : Int)) := by rw [← HN.out]; exact H3.out.1.len
          by_cases hlt : k < n
          · have p1 : decide ((k : Int) < (n : Int)) = true := decide_eq_true (by omega)
            have p0 : decide (k < n) = true := decide_eq_true hlt
            have w1 : IntKind.i64.wrap ((k : Int) + 1) = (k : Int) + 1 := i64_s _ (by omega) (by have := H128.out; omega)
            have HLT : Hid (k < n) := hlt
            have HK128 : Hid (k < 128) := by have := H128.out; show k < 128; omega
            clear hlt hk
            go_upto_region 8 with fail
            refine MixH.start (fun A => PfxAt A B p ∧ IprAt A I V x ∧ Below w.heap.size w A) (by kernel_rfl) ?_
            obtain ⟨wA, hwA⟩ : ∃ wA, wA = wr.drew := ⟨_, rfl⟩
            have bdr : Below wr.heap.size wr wA := by rw [hwA]; exact (Below.refl _ _).drew
            have hS : PfxAt wA B p ∧ IprAt wA I V x ∧ Below w.heap.size w wA := ⟨H3.out.1.below bdr, H3.out.2.1.below bdr, bthen H3.out.2.2 bdr⟩
            rw [← hwA]
            clear hwA bdr H3 c17
            refine MixH.takes [true, false, true, false, false, true] 5 (by kernel_rfl) (by kernel_rfl) (by decide) (by kernel_rfl) hS (fun K hK => ?_)
            simp only [Mix.pick]
            repeat (go_big_quiet_step (fail))
            refine wpQuiet_nil (hK _ ?_)
            clear hK K
            refine MixH.take 4 1 _ (.agg (ipCells p.V p.x)) rfl (by kernel_rfl) (by kernel_rfl) (by kernel_rfl) (by kernel_rfl) (yields_ipr (.tmp 32) rfl B 0 p.V p.x rfl rfl (fun A hA => hA.1.ip)) hS (fun a' ha => ?_)
            simp only [Act.put, List.setIfInBounds_toArray, List.set_cons_succ, List.set_cons_zero] at ha
            subst ha
            refine MixH.take 3 4 _ (.agg (ipCells V x)) rfl (by kernel_rfl) (by kernel_rfl) (by kernel_rfl) (by kernel_rfl) (yields_ipr (.tmp 3) rfl I 0 V x rfl rfl (fun A hA => hA.2.1.rng)) hS (fun a' ha => ?_)
            simp only [Act.put, List.setIfInBounds_toArray, List.set_cons_succ, List.set_cons_zero] at ha
            subst ha
            refine MixH.one [false, false, false, true] 2 3 _ rfl rfl (by kernel_rfl) (by kernel_rfl) (fun K hK => ?_)
            simp only [Mix.pick]
            go_wp2_with fail
            refine Calls.mono (bit_any p.V p.x k wA HK128.out HPX.out) ?_
            rintro e1 wB ⟨rfl, gz⟩
            replace hS : PfxAt wB B p ∧ IprAt wB I V x ∧ Below w.heap.size w wB := ⟨hS.1.below gz, hS.2.1.below gz, bthen hS.2.2 gz⟩
            clear gz
            go_wp2_with fail
            refine ⟨rfl, hK _ _ hS ?_⟩
            clear hK K
            refine MixH.one [false, false, false, false, false, false, true] 1 6 _ rfl rfl (by kernel_rfl) (by kernel_rfl) (fun K hK => ?_)
            simp only [Mix.pick]
            go_wp2_with fail
            refine Calls.mono (bit_any V x k wB HK128.out HXX.out) ?_
            rintro e1 wC ⟨rfl, gz⟩
            replace hS : PfxAt wC B p ∧ IprAt wC I V x ∧ Below w.heap.size w wC := ⟨hS.1.below gz, hS.2.1.below gz, bthen hS.2.2 gz⟩
            clear gz
            go_wp2_with fail
            refine ⟨rfl, hK _ _ hS ?_⟩
            clear hK K
            refine MixH.takes [false, false, false, false, false, false, false, true] 0 (by kernel_rfl) (by kernel_rfl) (by decide) (by kernel_rfl) hS (fun K hK => ?_)
            simp only [Mix.pick]
            repeat (go_big_quiet_step (fail))
            refine wpQuiet_nil (hK _ ?_)
            clear hK K
            refine MixH.done (by kernel_rfl) ?_
            have H4 : Hid (PfxAt wC B p ∧ IprAt wC I V x ∧ Below w.heap.size w wC) := hS
            clear hS
            by_cases he : btN p.x k = btN x k
            · have qe : (((btN p.x k : Nat) : Int) == ((btN x k : Nat) : Int)) = true := by simp [he]
              have qn : (((btN p.x k : Nat) : Int) != ((btN x k : Nat) : Int)) = false := by simp [he]
              have HEE : Hid (btN p.x k = btN x k) := he
              clear he
              go_wp2
              go_roundw
              case rel => exact ⟨k + 1, HLT.out, by simp, fun i h2 => if h : i = k then h ▸ HEE.out else HNK.out i (by omega), H4.out⟩
              case measure => have := HLT.out; simp [intOf]; omega
            · have qe : (((btN p.x k : Nat) : Int) == ((btN x k : Nat) : Int)) = false := by simp; omega
              have qn : (((btN p.x k : Nat) : Int) != ((btN x k : Nat) : Int)) = true := by simp; omega
              have HZ : Hid (cnR p V x = false) := by
                show _ = _
                rw [HR2.out, List.all_eq_false]
                exact ⟨k, List.mem_range.2 HLT.out, by simp [he]⟩
              clear he
              go_wp2
              go_ret
              exact ⟨by rw [HZ.out]; rfl, H4.out.2.2⟩
          · have p1 : decide ((k : Int) < (n : Int)) = false := decide_eq_false (by omega)
            have p0 : decide (k < n) = false := decide_eq_false hlt
            have HZ : Hid (cnR p V x = true) := by
              show _ = _
              rw [HR2.out, List.all_eq_true]
              intro i hi
              have h1 := List.mem_range.1 hi
              simp [HNK.out i (by omega)]
            clear hlt
            go_wp2
            go_ret
            exact ⟨by rw [HZ.out]; rfl, H3.out.2.2⟩
      · have q1 : (p.V == V) = false := by simp [hv]
        have q2 : (p.V != V) = true := by simp [hv]
        have HR : Hid (cnR p V x = false) := by show _ = _; unfold cnR; rw [q1]; simp
        clear hv
        go_wp2
        go_ret
        exact ⟨by rw [HR.out]; rfl, H2.out.2.2⟩
  · have q1 : ((e : Int) == 0) = false := by simp [h0]
    have q2 : ((e : Int) != 0) = true := by simp [h0]
    have HR : Hid (cnR p V x = false) := by show _ = _; unfold cnR; rw [HE.out]; simp [h0]
    clear h0
    go_wp2
    go_ret
    exact ⟨by rw [HR.out]; rfl, H2.out.2.2⟩
end Go.Proofs.YteldiggaooeeeaaGreatDoor
namespace Go.Proofs.YteldiggaooeeeaaGreatDoor
open Go.RowKit Go.Maps

theorem run_ip6 (x : Nat → Nat) (w : World) : (Instr.build 28 #[(0, .int .i64 6), (1, .agg (arCells x))]).run Tryz.prog w = .ok (.agg (ipCells 6 x)) w := by kernel_rfl
theorem wpList_ip6 {ops : Array Oper} {rest : List Oper} {o : Oper} {a_ : Act} {w : World} {Q : Exit → Act → World → Prop} (y0 y1 : Operand) (ho : o.op = .build 28 #[(0, y0), (1, y1)]) (x : Nat → Nat) (h0 : a_.eval y0 = .int .i64 6) (h1 : a_.eval y1 = .agg (arCells x)) (hw : Region.wanted o (yielded ops a_.tmps) = true)
    (h : wpList Tryz.prog ops Q rest (a_.put o.dst (.agg (ipCells 6 x))) w) : wpList Tryz.prog ops Q (o :: rest) a_ w := by
  refine wpList_step fun K hK => ?_
  rw [if_pos hw]
  have hrun : (execOp a_.eval o).run Tryz.prog w = .ok (.value (.agg (ipCells 6 x))) w := by
    obtain ⟨dst, op, type, pos, after, guard⟩ := o
    simp only at ho
    subst ho
    simp only [execOp, Sem.run_bind, List.map_toArray, List.map_cons, List.map_nil, h0, h1, run_ip6 x w, Result.andThen_ok]
    rfl
  unfold Oper.wp
  rw [hrun]
  exact hK _ _ h
theorem run_ip4z  (w : World) : (Instr.build 28 #[(0, .int .i64 4)]).run Tryz.prog w = .ok (.agg (ipCells 4 (fun _ => 0))) w := by kernel_rfl
theorem wpList_ip4z {ops : Array Oper} {rest : List Oper} {o : Oper} {a_ : Act} {w : World} {Q : Exit → Act → World → Prop} (y0 : Operand) (ho : o.op = .build 28 #[(0, y0)])  (h0 : a_.eval y0 = .int .i64 4) (hw : Region.wanted o (yielded ops a_.tmps) = true)
    (h : wpList Tryz.prog ops Q rest (a_.put o.dst (.agg (ipCells 4 (fun _ => 0)))) w) : wpList Tryz.prog ops Q (o :: rest) a_ w := by
  refine wpList_step fun K hK => ?_
  rw [if_pos hw]
  have hrun : (execOp a_.eval o).run Tryz.prog w = .ok (.value (.agg (ipCells 4 (fun _ => 0)))) w := by
    obtain ⟨dst, op, type, pos, after, guard⟩ := o
    simp only at ho
    subst ho
    simp only [execOp, Sem.run_bind, List.map_toArray, List.map_cons, List.map_nil, h0, run_ip4z  w, Result.andThen_ok]
    rfl
  unfold Oper.wp
  rw [hrun]
  exact hK _ _ h
theorem results_ip3 {fn : Func} {p u v : Tmp} (h : fn.results = #[.cell p 28, .tmp u, .tmp v]) (tmps : Array Value) (w : World) (O : Nat) (V : Int) (x : Nat → Nat) (hp : tmps.getD p undef = .pointer (some ⟨O, 0, none⟩)) (hb : IprAt w O V x) :
    (results fn tmps).run Tryz.prog w = .ok (.tuple #[.agg (ipCells V x), tmps.getD u undef, tmps.getD v undef]) w := by
  have hp' : tmps[p]?.getD undef = .pointer (some ⟨O, 0, none⟩) := by simpa using hp
  simp [results, h, hp', asAddr, run_loadVar_row w O _ 28 (ipCells V x) _ _ hb Tryz.underlying28 rfl Tryz.size_ipr]
theorem ip_set (V : Int) (x : Nat → Nat) (k v : Nat) (h : k < 16) : (ipCells V x).setIfInBounds (1 + k) (.int .u8 (v : Nat)) = ipCells V (up1 x k v) := by
  have : k = 0 ∨ k = 1 ∨ k = 2 ∨ k = 3 ∨ k = 4 ∨ k = 5 ∨ k = 6 ∨ k = 7 ∨ k = 8 ∨ k = 9 ∨ k = 10 ∨ k = 11 ∨ k = 12 ∨ k = 13 ∨ k = 14 ∨ k = 15 := by omega
  rcases this with rfl | rfl | rfl | rfl | rfl | rfl | rfl | rfl | rfl | rfl | rfl | rfl | rfl | rfl | rfl | rfl <;> simp [ipCells, up1]
theorem IprAt.put {w : World} {O : Nat} {V : Int} {x : Nat → Nat} (h : IprAt w O V x) (k v : Nat) (hk : k < 16) : IprAt (w.setCell ⟨O, 1 + k, none⟩ (.int .u8 (v : Nat))) O V (up1 x k v) := by
  unfold IprAt at h ⊢
  rw [heap_setCell_same w O (1 + k) _ _ _ h, ip_set V x k v hk]
set_option maxHeartbeats 1600000 in
set_option maxRecDepth 100000 in
theorem parse6_right (s : ByteArray) (w : World) (hs : s.size ≤ 45) (hc : hsB s 58 = true) (hnd : ∀ i, sB s i ≠ 46) (hok : (sxL s).er = 0) (h8 : (decide ((sxL s).gap < 0) && decide ((sxL s).g.length < 8)) = false) : Calls Tryz.prog 42 #[.string s] w fun r w' => r = .returned (.tuple #[.agg (ipCells 6 (fil (sxL s) (sxL s).g.length)), .int .i64 0, .int .i64 0]) ∧ Below w.heap.size w w' := by
  have HS : Hid (s.size ≤ 45) := hs
  have HP : Hid (hsB s 58 = true ∧ (∀ i, sB s i ≠ 46) ∧ (sxL s).er = 0 ∧ (decide ((sxL s).gap < 0) && decide ((sxL s).g.length < 8)) = false) := ⟨hc, hnd, hok, h8⟩
  have q1 : decide ((45 : Int) < (s.size : Int)) = false := decide_eq_false (by omega)
  clear hs hc hnd hok h8
  obtain ⟨x, hx⟩ : ∃ x, fil (sxL s) (sxL s).g.length = x := ⟨_, rfl⟩
  have HX : Hid (fil (sxL s) (sxL s).g.length = x) := hx
  rw [hx]
  clear hx
  obtain ⟨W, hY⟩ : ∃ Y, Y = w.alloc (.cells (ipCells 0 (fun _ => 0)) 28) := ⟨_, rfl⟩
  have bY : Below w.heap.size w W := by rw [hY]; exact (Below.refl _ _).alloc (Nat.le_refl _) _
  obtain ⟨I, hO⟩ : ∃ O, O = w.heap.size := ⟨_, rfl⟩
  have HNI : Hid (IprAt W I 0 (fun _ => 0)) := by show IprAt W I 0 (fun _ => 0); rw [hY, hO]; exact ipr_new w 0 (fun _ => 0)
  have HLI : Hid (Below w.heap.size w W) := bY
  have HEI : Hid (w.alloc (.cells (ipCells 0 (fun _ => 0)) 28) = W) := hY.symm
  have HOI : Hid (w.heap.size = I) := hO.symm
  clear hY bY hO
  go_enter Tryz.func42, Tryz.ntmps42
  go_wp2_with (first | (refine wpList_alloc_ipr rfl rfl ?_; rw [HEI.out, HOI.out]))
  refine (hasT_any s 58 W (by have := HS.out; omega)).mono ?_
  rintro e1 wz ⟨rfl, rfl⟩
  rw [HP.out.1]
  go_wp2_with fail
  refine (sixes_plain s W (by have := HS.out; omega) HP.out.2.1 HP.out.2.2.1 HP.out.2.2.2).mono ?_
  rintro e1 w1 ⟨rfl, b1⟩
  rw [HX.out]
  have H1 : Hid (IprAt w1 I 0 (fun _ => 0) ∧ Below w.heap.size w w1) := ⟨HNI.out.below b1, bthen HLI.out b1⟩
  clear b1
  obtain ⟨w2, hw2⟩ : ∃ w2, w2 = w1.alloc (.cells (arCells fun _ => 0) 26) := ⟨_, rfl⟩
  have l2 : Below w1.heap.size w1 w2 := by rw [hw2]; exact (Below.refl _ _).alloc (Nat.le_refl _) _
  have a2 := arAt_new w1 (arCells fun _ => 0)
  rw [← hw2] at a2
  obtain ⟨D, hD⟩ : ∃ D, w1.heap.size = D := ⟨_, rfl⟩
  rw [hD] at a2
  have HOD : Hid (w1.heap.size = D) := hD
  have HW2 : Hid (w1.alloc (.cells #[.int .u8 0, .int .u8 0, .int .u8 0, .int .u8 0, .int .u8 0, .int .u8 0, .int .u8 0, .int .u8 0, .int .u8 0, .int .u8 0, .int .u8 0, .int .u8 0, .int .u8 0, .int .u8 0, .int .u8 0, .int .u8 0] 26) = w2) := hw2.symm
  have H2 : Hid (IprAt w2 I 0 (fun _ => 0) ∧ ArAt w2 D (arCells fun _ => 0) ∧ Below w.heap.size w w2 ∧ I < D) := ⟨H1.out.1.below l2, a2, bthen H1.out.2 l2, by rw [← hD]; exact H1.out.1.lt⟩
  clear hw2 l2 a2 hD
  go_wp2_with (first | (rw [HOD.out, HW2.out]) | (refine wpList_store_ar (.tmp 5) (.tmp 22) rfl rfl D (fun _ => 0) x rfl rfl H2.out.2.1 rfl ?_))
  intro w3 h3 k3
  have H3 : Hid (IprAt w3 I 0 (fun _ => 0) ∧ ArAt w3 D (arCells x) ∧ Below w.heap.size w w3) := ⟨H2.out.1.ch k3 (by have := H2.out.2.2.2; omega), h3, H2.out.2.2.1.trans (k3.below (fun q hq => by have h1 := H2.out.2.2.2; have h2 := HOI.out; omega) H2.out.2.2.1.size)⟩
  clear h3 k3
  go_wp2_with (first | (refine wpList_load_ar (.tmp 5) rfl D 0 x rfl H3.out.2.1.range rfl ?_) | (refine wpList_ip6 (.const (.int .i64 6)) (.tmp 30) rfl x rfl rfl rfl ?_) | (refine wpList_store_ipr (.tmp 2) (.tmp 31) rfl rfl I 0 (fun _ => 0) 6 x rfl rfl H3.out.1 rfl ?_))
  intro w4 h4 k4
  have H4 : Hid (IprAt w4 I 6 x ∧ Below w.heap.size w w4) := ⟨h4, H3.out.2.2.trans (k4.below (fun q hq => by have h2 := HOI.out; omega) H3.out.2.2.size)⟩
  clear h4 k4
  go_wp2_with fail
  refine bodyPost_ret (results_ip3 rfl _ _ I _ _ rfl H4.out.1) rfl ?_
  exact ⟨rfl, H4.out.2⟩
/-- the first i bytes -/
def pre (l : List Nat) (i : Nat) : Nat → Nat := fun j => if j < i then l.getD j 0 else 0
theorem pre_succ (l : List Nat) (i : Nat) : up1 (pre l i) i (l.getD i 0) = pre l (i + 1) := by
  funext j
  unfold up1 pre
  by_cases h : j = i
  · subst h; simp
  · rw [if_neg h]
    by_cases h2 : j < i
    · rw [if_pos h2, if_pos (by omega)]
    · rw [if_neg h2, if_neg (by omega)]
set_option maxHeartbeats 1600000 in
set_option maxRecDepth 100000 in
theorem parse4_right (s : ByteArray) (l : List Nat) (w : World) (hs : s.size ≤ 45) (hc : hsB s 58 = false) (hl : l.length = 4) (hd : dtd s 4 0 [] = .inl l) : Calls Tryz.prog 42 #[.string s] w fun r w' => r = .returned (.tuple #[.agg (ipCells 4 (pre l 4)), .int .i64 0, .int .i64 0]) ∧ Below w.heap.size w w' := by
  have HS : Hid (s.size ≤ 45) := hs
  have HP : Hid (hsB s 58 = false ∧ dtd s 4 0 [] = .inl l ∧ l.length = 4) := ⟨hc, hd, hl⟩
  have q1 : decide ((45 : Int) < (s.size : Int)) = false := decide_eq_false (by omega)
  clear hs hc hd hl
  obtain ⟨W, hY⟩ : ∃ Y, Y = w.alloc (.cells (ipCells 0 (fun _ => 0)) 28) := ⟨_, rfl⟩
  have bY : Below w.heap.size w W := by rw [hY]; exact (Below.refl _ _).alloc (Nat.le_refl _) _
  obtain ⟨I, hO⟩ : ∃ O, O = w.heap.size := ⟨_, rfl⟩
  have HNI : Hid (IprAt W I 0 (fun _ => 0)) := by show IprAt W I 0 (fun _ => 0); rw [hY, hO]; exact ipr_new w 0 (fun _ => 0)
  have HLI : Hid (Below w.heap.size w W) := bY
  have HEI : Hid (w.alloc (.cells (ipCells 0 (fun _ => 0)) 28) = W) := hY.symm
  have HOI : Hid (w.heap.size = I) := hO.symm
  clear hY bY hO
  go_enter Tryz.func42, Tryz.ntmps42
  go_wp2_with (first | (refine wpList_alloc_ipr rfl rfl ?_; rw [HEI.out, HOI.out]))
  refine (hasT_any s 58 W (by have := HS.out; omega)).mono ?_
  rintro e1 wz ⟨rfl, rfl⟩
  rw [HP.out.1]
  go_wp2_with fail
  refine (dotted_any s 0 W (by have := HS.out; omega) (Nat.zero_le _)).mono ?_
  rintro e1 w1 ⟨hr, b1⟩
  unfold DtR at hr
  rw [HP.out.2.1] at hr
  obtain ⟨v, rfl, ho⟩ := hr
  rw [HP.out.2.2] at ho
  have H1 : Hid (IprAt w1 I 0 (fun _ => 0) ∧ Below w.heap.size w w1) := ⟨HNI.out.below b1, bthen HLI.out b1⟩
  obtain ⟨g, cap, hv, hg, hgs⟩ : ∃ g cap, v = .slice (some ⟨g, 0, none⟩) 4 cap ∧ W.heap.size ≤ g ∧ g < w1.heap.size := by
    rcases ho.2 with ⟨h1, h2⟩ | ⟨g, cap, cur, hv, hg, r⟩
    · omega
    · exact ⟨g, cap, hv, hg, (ho.lt g (by rw [hv]; rfl)).2⟩
  subst hv
  have HOW : Hid (w1.ownsRow W.heap.size 5 1 (.slice (some ⟨g, 0, none⟩) 4 cap) 4 (l.map fun n => Value.int .u8 (n : Nat)) ∧ W.heap.size ≤ g ∧ g < w1.heap.size) := ⟨ho, hg, hgs⟩
  clear b1 ho hg hgs
  obtain ⟨w2, hw2⟩ : ∃ w2, w2 = w1.alloc (.cells (ipCells 0 (fun _ => 0)) 28) := ⟨_, rfl⟩
  have l2 : Below w1.heap.size w1 w2 := by rw [hw2]; exact (Below.refl _ _).alloc (Nat.le_refl _) _
  have a2 := ipr_new w1 0 (fun _ => 0)
  rw [← hw2] at a2
  obtain ⟨D, hD⟩ : ∃ D, w1.heap.size = D := ⟨_, rfl⟩
  rw [hD] at a2
  have HOD : Hid (w1.heap.size = D) := hD
  have HW2 : Hid (w1.alloc (.cells (ipCells 0 (fun _ => 0)) 28) = w2) := hw2.symm
  have H2 : Hid (IprAt w2 I 0 (fun _ => 0) ∧ IprAt w2 D 0 (fun _ => 0) ∧ Below w.heap.size w w2 ∧ I < D ∧ w2.ownsRow W.heap.size 5 1 (.slice (some ⟨g, 0, none⟩) 4 cap) 4 (l.map fun n => Value.int .u8 (n : Nat))) := ⟨H1.out.1.below l2, a2, bthen H1.out.2 l2, by rw [← hD]; exact H1.out.1.lt, (Ch.ofBelow (S := fun _ => False) l2).owns HOW.out.1 (fun _ _ h => h)⟩
  have HIG : Hid (I < g ∧ g < D) := by have h1 := HOW.out.2; have h2 := HNI.out.lt; rw [hD] at h1; show I < g ∧ g < D; omega
  clear hw2 l2 a2 hD
  go_wp2_with (first | (refine wpList_ip4z (.const (.int .i64 4)) rfl rfl rfl ?_) | (refine wpList_alloc_ipr rfl rfl ?_; rw [HW2.out, HOD.out]) | (refine wpList_store_ipr (.tmp 11) (.tmp 43) rfl rfl D 0 (fun _ => 0) 4 (fun _ => 0) rfl rfl H2.out.2.1 rfl ?_))
  intro w3 h3 k3
  have H3 : Hid (IprAt w3 I 0 (fun _ => 0) ∧ IprAt w3 D 4 (pre l 0) ∧ Below w.heap.size w w3 ∧ w3.ownsRow W.heap.size 5 1 (.slice (some ⟨g, 0, none⟩) 4 cap) 4 (l.map fun n => Value.int .u8 (n : Nat))) := by
    have h1 := H2.out.2.2.2.1
    have h2 := HOI.out
    have h4 := HIG.out
    refine ⟨H2.out.1.ch k3 (by omega), ?_, H2.out.2.2.1.trans (k3.below (fun q hq => by omega) H2.out.2.2.1.size), k3.owns H2.out.2.2.2.2 (fun q hq e => by simp [Value.ownBlock] at hq; omega)⟩
    have e0 : pre l 0 = fun _ => 0 := by funext j; simp [pre]
    rw [e0]
    exact h3
  clear h3 k3
  go_wp2_with fail
  go_loopw [12] (fun iv wr => ∃ i : Nat, i ≤ 4 ∧ iv = .int .i64 (i : Nat) ∧ Hid (IprAt wr I 0 (fun _ => 0) ∧ IprAt wr D 4 (pre l i) ∧ Below w.heap.size w wr ∧ wr.ownsRow W.heap.size 5 1 (.slice (some ⟨g, 0, none⟩) 4 cap) 4 (l.map fun n => Value.int .u8 (n : Nat)))) (fun iv _ => 4 - (intOf iv).toNat)
  case atStart => exact ⟨0, by omega, rfl, H3.out⟩
  case round =>
    obtain ⟨i, hi, rfl, HF⟩ := hrel
    by_cases hil : i < 4
    · have p1 : decide ((i : Int) < 4) = true := decide_eq_true (by omega)
      have p2 : (i : Int) < 4 := by omega
      have p3 : (i : Int) < 16 := by omega
      have w1' : IntKind.i64.wrap ((i : Int) + 1) = (i : Int) + 1 := i64_s _ (by omega) (by omega)
      have HIL : Hid (i < 4) := hil
      have hln : i < l.length := by rw [HP.out.2.2]; exact hil
      obtain ⟨v, hv⟩ : ∃ v, l.getD i 0 = v := ⟨_, rfl⟩
      have HV : Hid (l.getD i 0 = v) := hv
      have ce : wr.cell? ⟨g, i, none⟩ = some (.int .u8 (v : Nat)) := by
        have h1 := HF.out.2.2.2.cellAt i (by simpa using hil)
        rw [h1, List.getElem?_map, List.getElem?_eq_getElem hln, ← hv, List.getD_eq_getElem?_getD, List.getElem?_eq_getElem hln]
        rfl
      have cb := HF.out.2.1.byte i (by omega)
      have fb := HF.out.2.1.fz (1 + i)
      have hp := HF.out.2.1.put i v (by omega)
      rw [← hv, pre_succ, hv] at hp
      obtain ⟨w5, hw5⟩ : ∃ w5, w5 = wr.setCell ⟨D, 1 + i, none⟩ (.int .u8 (v : Nat)) := ⟨_, rfl⟩
      have HW5 : Hid (wr.setCell ⟨D, 1 + i, none⟩ (.int .u8 (v : Nat)) = w5) := hw5.symm
      have k5 : Ch (fun q => q = D) wr w5 := by rw [hw5]; exact (Ch.refl (fun q => q = D) wr).set ⟨D, 1 + i, none⟩ _ rfl
      rw [← hw5] at hp
      have H5 : Hid (IprAt w5 I 0 (fun _ => 0) ∧ IprAt w5 D 4 (pre l (i + 1)) ∧ Below w.heap.size w w5 ∧ w5.ownsRow W.heap.size 5 1 (.slice (some ⟨g, 0, none⟩) 4 cap) 4 (l.map fun n => Value.int .u8 (n : Nat))) := by
        have h1 := H2.out.2.2.2.1
        have h2 := HOI.out
        have h4 := HIG.out
        exact ⟨HF.out.1.ch k5 (by omega), hp, HF.out.2.2.1.trans (k5.below (fun q hq => by omega) HF.out.2.2.1.size), k5.owns HF.out.2.2.2 (fun q hq e => by simp [Value.ownBlock] at hq; omega)⟩
      clear hp k5 hw5 hv hln hil hi
      go_upto_region 14 with fail
      rw [HW5.out]
      clear ce cb fb
      go_wp2_with fail
      go_roundw
      case rel => exact ⟨i + 1, HIL.out, by simp, H5.out⟩
      case measure => have := HIL.out; simp [intOf]; omega
    · have p1 : decide ((i : Int) < 4) = false := decide_eq_false (by omega)
      have p2 : ¬ (i : Int) < 4 := by omega
      have HI4 : Hid (i = 4) := by show i = 4; omega
      clear hil hi
      go_wp2_with (first | (refine wpList_load_ipr (.tmp 11) rfl D 4 (pre l i) rfl HF.out.2.1 rfl ?_) | (refine wpList_store_ipr (.tmp 2) (.tmp 55) rfl rfl I 0 (fun _ => 0) 4 (pre l i) rfl rfl HF.out.1 rfl ?_))
      intro w6 h6 k6
      have H6 : Hid (IprAt w6 I 4 (pre l i) ∧ Below w.heap.size w w6) := ⟨h6, HF.out.2.2.1.trans (k6.below (fun q hq => by have h2 := HOI.out; omega) HF.out.2.2.1.size)⟩
      clear h6 k6
      go_wp2_with fail
      refine bodyPost_ret (results_ip3 rfl _ _ I _ _ rfl H6.out.1) rfl ?_
      exact ⟨by rw [HI4.out]; rfl, H6.out.2⟩
end Go.Proofs.YteldiggaooeeeaaGreatDoor
namespace Go.Proofs.YteldiggaooeeeaaGreatDoor
open Go.RowKit Go.Maps

theorem run_pfx2 (V : Int) (x : Nat → Nat) (n : Int) (w : World) : (Instr.build 38 #[(0, .agg (ipCells V x)), (1, .int .i64 n)]).run Tryz.prog w = .ok (.agg (pfC ⟨V, x, n⟩)) w := by kernel_rfl
theorem wpList_pfx2 {ops : Array Oper} {rest : List Oper} {o : Oper} {a_ : Act} {w : World} {Q : Exit → Act → World → Prop} (y0 y1 : Operand) (ho : o.op = .build 38 #[(0, y0), (1, y1)]) (V : Int) (x : Nat → Nat) (n : Int) (h0 : a_.eval y0 = .agg (ipCells V x)) (h1 : a_.eval y1 = .int .i64 n) (hw : Region.wanted o (yielded ops a_.tmps) = true)
    (h : wpList Tryz.prog ops Q rest (a_.put o.dst (.agg (pfC ⟨V, x, n⟩))) w) : wpList Tryz.prog ops Q (o :: rest) a_ w := by
  refine wpList_step fun K hK => ?_
  rw [if_pos hw]
  have hrun : (execOp a_.eval o).run Tryz.prog w = .ok (.value (.agg (pfC ⟨V, x, n⟩))) w := by
    obtain ⟨dst, op, type, pos, after, guard⟩ := o
    simp only at ho
    subst ho
    simp only [execOp, Sem.run_bind, List.map_toArray, List.map_cons, List.map_nil, h0, h1, run_pfx2 V x n w, Result.andThen_ok]
    rfl
  unfold Oper.wp
  rw [hrun]
  exact hK _ _ h
theorem results_pf3 {fn : Func} {p u v : Tmp} (h : fn.results = #[.cell p 38, .tmp u, .tmp v]) (tmps : Array Value) (w : World) (O : Nat) (x : PV) (hp : tmps.getD p undef = .pointer (some ⟨O, 0, none⟩)) (hb : PfxAt w O x) :
    (results fn tmps).run Tryz.prog w = .ok (.tuple #[.agg (pfC x), tmps.getD u undef, tmps.getD v undef]) w := by
  have hp' : tmps[p]?.getD undef = .pointer (some ⟨O, 0, none⟩) := by simpa using hp
  simp [results, h, hp', asAddr, run_loadVar_row w O _ 38 (pfC x) _ _ hb Tryz.underlying38 rfl Tryz.size_pfx]
/-- a right text of a prefix -/
structure PfOk (s : ByteArray) (k : Nat) (V : Int) (x : Nat → Nat) (n : Nat) : Prop where
  sz : s.size ≤ 49
  kl : k + 1 < s.size
  no : ∀ i, i < k → sB s i ≠ 47
  at_ : sB s k = 47
  ip : ∀ w, Calls Tryz.prog 42 #[.string (s.extract 0 k)] w fun r w' => r = .returned (.tuple #[.agg (ipCells V x), .int .i64 0, .int .i64 0]) ∧ Below w.heap.size w w'
  xb : ∀ i, i < 16 → x i < 256
  dg : ∀ i, i < s.size - (k + 1) → dgB (sB s (k + 1 + i)) = true
  nm : dcm s (k + 1) s.size (wdN V) = (n : Nat)
  vp : vpR ⟨V, x, (n : Nat)⟩ = 0
set_option maxHeartbeats 1600000 in
set_option maxRecDepth 100000 in
theorem prefix_right {s : ByteArray} {k : Nat} {V : Int} {x : Nat → Nat} {n : Nat} (h : PfOk s k V x n) (w : World) : Calls Tryz.prog 44 #[.string s] w fun r w' => r = .returned (.tuple #[.agg (pfC ⟨V, x, (n : Nat)⟩), .int .i64 0, .int .i64 0]) ∧ Below w.heap.size w w' := by
  have HP : Hid (PfOk s k V x n) := h
  have q1 : decide ((49 : Int) < (s.size : Int)) = false := decide_eq_false (by have := h.sz; omega)
  clear h
  obtain ⟨W, hY⟩ : ∃ Y, Y = w.alloc (.cells (pfC pz) 38) := ⟨_, rfl⟩
  have bY : Below w.heap.size w W := by rw [hY]; exact (Below.refl _ _).alloc (Nat.le_refl _) _
  obtain ⟨I, hO⟩ : ∃ O, O = w.heap.size := ⟨_, rfl⟩
  have HNI : Hid (PfxAt W I pz) := by show PfxAt W I pz; rw [hY, hO]; exact pfx_new w pz
  have HLI : Hid (Below w.heap.size w W) := bY
  have HEI : Hid (w.alloc (.cells (pfC pz) 38) = W) := hY.symm
  have HOI : Hid (w.heap.size = I) := hO.symm
  clear hY bY hO
  go_enter Tryz.func44, Tryz.ntmps44
  go_wp2_with (first | (refine wpList_alloc_pfx rfl rfl ?_; rw [HEI.out, HOI.out]))
  go_loopw [5] (fun iv wr => ∃ i : Nat, i ≤ k ∧ iv = .int .i64 (i : Nat) ∧ W = wr) (fun iv _ => k - (intOf iv).toNat)
  case atStart => exact ⟨0, Nat.zero_le _, rfl, rfl⟩
  case round =>
    obtain ⟨i, hi, rfl, rfl⟩ := hrel
    have HIS : Hid (i < s.size) := by have := HP.out.kl; show i < s.size; omega
    have p1 : decide ((i : Int) < (s.size : Int)) = true := decide_eq_true (by have := HIS.out; omega)
    have p2 : decide (i < s.size) = true := decide_eq_true HIS.out
    have ww1 : IntKind.i64.wrap ((i : Int) + 1) = (i : Int) + 1 := i64_s _ (by omega) (by have := HIS.out; have := HP.out.sz; omega)
    by_cases hik : i < k
    · have n1 : (((sB s i : Nat) : Int) != 47) = true := by have := HP.out.no i hik; simp; omega
      have n2 : (((sB s i : Nat) : Int) == 47) = false := by have := HP.out.no i hik; simp; omega
      have HIK : Hid (i < k) := hik
      clear hik hi
      go_wp2_with (refine wpList_sB (.tmp 23) (.tmp 24) rfl s i _ rfl rfl rfl HIS.out rfl ?_)
      go_roundw
      case rel => exact ⟨i + 1, HIK.out, by simp, by first | rfl | trivial⟩
      case measure => have := HIK.out; simp [intOf]; omega
    · obtain rfl : i = k := by omega
      have n1 : (((sB s i : Nat) : Int) != 47) = false := by have := HP.out.at_; simp [this]
      have n2 : (((sB s i : Nat) : Int) == 47) = true := by have := HP.out.at_; simp [this]
      have n3 : ((i : Int) == (s.size : Int)) = false := by have := HIS.out; simp; omega
      have n4 : (i == s.size) = false := by have := HIS.out; simp; omega
      have hik0 : (0 : Int) ≤ (i : Int) := by omega
      have hik1 : (i : Int) ≤ (s.size : Int) := by have := HIS.out; omega
      obtain ⟨u, hu⟩ : ∃ u, s.extract 0 i = u := ⟨_, rfl⟩
      have HU : Hid (s.extract 0 i = u) := hu
      have HPI : Hid (∀ w, Calls Tryz.prog 42 #[.string u] w fun r w' => r = .returned (.tuple #[.agg (ipCells V x), .int .i64 0, .int .i64 0]) ∧ Below w.heap.size w w') := by have := HP.out.ip; rw [hu] at this; exact this
      clear hik hi hu
      go_wp2_with (refine wpList_sB (.tmp 23) (.tmp 24) rfl s i _ rfl rfl rfl HIS.out rfl ?_)
      try rw [HU.out]
      refine (HPI.out W).mono ?_
      rintro e1 w1 ⟨rfl, b1⟩
      have H1 : Hid (PfxAt w1 I pz ∧ Below w.heap.size w w1) := ⟨HNI.out.below b1, bthen HLI.out b1⟩
      clear b1
      obtain ⟨w2, hw2⟩ : ∃ w2, w2 = w1.alloc (.cells (ipCells 0 (fun _ => 0)) 28) := ⟨_, rfl⟩
      have l2 : Below w1.heap.size w1 w2 := by rw [hw2]; exact (Below.refl _ _).alloc (Nat.le_refl _) _
      have a2 := ipr_new w1 0 (fun _ => 0)
      rw [← hw2] at a2
      obtain ⟨D, hD⟩ : ∃ D, w1.heap.size = D := ⟨_, rfl⟩
      rw [hD] at a2
      have HOD : Hid (w1.heap.size = D) := hD
      have HW2 : Hid (w1.alloc (.cells (ipCells 0 (fun _ => 0)) 28) = w2) := hw2.symm
      have H2 : Hid (PfxAt w2 I pz ∧ IprAt w2 D 0 (fun _ => 0) ∧ Below w.heap.size w w2 ∧ I < D) := ⟨H1.out.1.below l2, a2, bthen H1.out.2 l2, by rw [← hD]; exact H1.out.1.lt⟩
      clear hw2 l2 a2 hD
      go_wp2_with (first | (refine wpList_alloc_ipr rfl rfl ?_; rw [HW2.out, HOD.out]) | (refine wpList_store_ipr (.tmp 6) (.tmp 42) rfl rfl D 0 (fun _ => 0) V x rfl rfl H2.out.2.1 rfl ?_))
      intro w3 h3 k3
      have H3 : Hid (PfxAt w3 I pz ∧ IprAt w3 D V x ∧ Below w.heap.size w w3) := ⟨H2.out.1.ch k3 (by have := H2.out.2.2.2; omega), h3, H2.out.2.2.1.trans (k3.below (fun q hq => by have h1 := H2.out.2.2.2; have h2 := HOI.out; omega) H2.out.2.2.1.size)⟩
      clear h3 k3
      obtain ⟨z, hz⟩ : ∃ z, i + 1 = z := ⟨_, rfl⟩
      have HZ : Hid (i + 1 = z) := hz
      have w1z : IntKind.i64.wrap ((i : Int) + 1) = (z : Int) := by rw [ww1]; omega
      clear hz ww1 n1 n2 p1 p2 n3 n4
      go_wp2_with fail
      go_loopw [9] (fun qv wr => ∃ q : Nat, z ≤ q ∧ q ≤ s.size ∧ qv = .int .i64 (q : Nat) ∧ w3 = wr) (fun qv _ => s.size - (intOf qv).toNat)
      case atStart => exact ⟨z, Nat.le_refl _, by have h1 := HZ.out; have h2 := HP.out.kl; omega, rfl, rfl⟩
      case round =>
        obtain ⟨q, hq1, hq2, rfl, rfl⟩ := hrel
        by_cases hqs : q < s.size
        · have p1 : decide ((q : Int) < (s.size : Int)) = true := decide_eq_true (by omega)
          have p2 : decide (q < s.size) = true := decide_eq_true hqs
          have w1q : IntKind.i64.wrap ((q : Int) + 1) = (q : Int) + 1 := i64_s _ (by omega) (by have := HP.out.sz; omega)
          have HQS : Hid (q < s.size ∧ z ≤ q) := ⟨hqs, hq1⟩
          have HB : Hid (dgB (sB s q) = true) := by
            have h1 := HP.out.dg (q - z) (by have h1 := HZ.out; omega)
            rw [show i + 1 + (q - z) = q by have h1 := HZ.out; omega] at h1
            exact h1
          clear hqs hq1 hq2
          go_wp2_with (refine wpList_sB (.tmp 57) (.tmp 58) rfl s q _ rfl rfl rfl HQS.out.1 rfl ?_)
          refine (digit_any (sB s q) w3).mono ?_
          rintro e1 wz ⟨rfl, rfl⟩
          rw [HB.out]
          go_wp2_with fail
          go_roundw
          case rel => exact ⟨q + 1, by have := HQS.out; omega, HQS.out.1, by simp, by first | rfl | trivial⟩
          case measure => have := HQS.out; simp [intOf]; omega
        · obtain rfl : q = s.size := by omega
          have p1 : decide ((s.size : Int) < (s.size : Int)) = false := decide_eq_false (by omega)
          have p2 : decide (s.size < s.size) = false := decide_eq_false (by omega)
          have e1 : ((s.size : Int) == (z : Int)) = false := by have h1 := HZ.out; have h2 := HP.out.kl; simp; omega
          have e2 : (s.size == z) = false := by have h1 := HZ.out; have h2 := HP.out.kl; simp; omega
          have nn : ¬ ((n : Nat) : Int) < 0 := by omega
          have nd : decide (((n : Nat) : Int) < 0) = false := decide_eq_false nn
          have HDZ : Hid (z ≤ s.size) := hq1
          clear hqs hq1 hq2
          go_wp2_with (first | (refine wpList_load_ipr (.tmp 6) rfl D V x rfl H3.out.2.1 rfl ?_))
          refine (width_any V x w3).mono ?_
          rintro e3 w4 ⟨rfl, b4⟩
          have H4 : Hid (PfxAt w4 I pz ∧ IprAt w4 D V x ∧ Below w.heap.size w w4) := ⟨H3.out.1.below b4, H3.out.2.1.below b4, bthen H3.out.2.2 b4⟩
          clear b4
          go_wp2_with fail
          refine (decimal_any s z s.size (wdN V) w4 HDZ.out (Nat.le_refl _) (by have := HP.out.sz; omega) (fun j hj => by have h1 := HP.out.dg j (by have h1 := HZ.out; omega); rw [HZ.out] at h1; exact h1)).mono ?_
          rintro e3 wz ⟨rfl, rfl⟩
          have HDN : Hid (dcm s z s.size (wdN V) = (n : Nat)) := by have h1 := HP.out.nm; rw [HZ.out] at h1; exact h1
          rw [HDN.out]
          obtain ⟨w5, hw5⟩ : ∃ w5, w5 = w4.alloc (.cells (pfC pz) 38) := ⟨_, rfl⟩
          have l5 : Below w4.heap.size w4 w5 := by rw [hw5]; exact (Below.refl _ _).alloc (Nat.le_refl _) _
          have a5 := pfx_new w4 pz
          rw [← hw5] at a5
          obtain ⟨E, hE⟩ : ∃ E, w4.heap.size = E := ⟨_, rfl⟩
          rw [hE] at a5
          have HOE : Hid (w4.heap.size = E) := hE
          have HW5 : Hid (w4.alloc (.cells (pfC pz) 38) = w5) := hw5.symm
          have H5 : Hid (PfxAt w5 I pz ∧ PfxAt w5 E pz ∧ Below w.heap.size w w5 ∧ I < E) := ⟨H4.out.1.below l5, a5, bthen H4.out.2.2 l5, by rw [← hE]; exact H4.out.1.lt⟩
          clear hw5 l5 a5 hE
          go_wp2_with (first | (refine wpList_load_ipr (.tmp 6) rfl D V x rfl H4.out.2.1 rfl ?_) | (refine wpList_pfx2 (.tmp 95) (.tmp 96) rfl V x (n : Nat) rfl rfl rfl ?_) | (refine wpList_alloc_pfx rfl rfl ?_; rw [HW5.out, HOE.out]) | (refine wpList_store_pfx (.tmp 13) (.tmp 97) rfl rfl E pz ⟨V, x, (n : Nat)⟩ rfl rfl H5.out.2.1 rfl ?_))
          intro w6 h6 k6
          have H6 : Hid (PfxAt w6 I pz ∧ PfxAt w6 E ⟨V, x, (n : Nat)⟩ ∧ Below w.heap.size w w6) := ⟨H5.out.1.ch k6 (by have := H5.out.2.2.2; omega), h6, H5.out.2.2.1.trans (k6.below (fun q hq => by have h1 := H5.out.2.2.2; have h2 := HOI.out; omega) H5.out.2.2.1.size)⟩
          clear h6 k6
          go_wp2_with (first | (refine wpList_load_pfx (.tmp 13) rfl E ⟨V, x, (n : Nat)⟩ rfl H6.out.2.1 rfl ?_))
          refine (validPrefixR_any ⟨V, x, (n : Nat)⟩ w6 HP.out.xb).mono ?_
          rintro e3 w7 ⟨rfl, b7⟩
          rw [HP.out.vp]
          have H7 : Hid (PfxAt w7 I pz ∧ PfxAt w7 E ⟨V, x, (n : Nat)⟩ ∧ Below w.heap.size w w7) := ⟨H6.out.1.below b7, H6.out.2.1.below b7, bthen H6.out.2.2 b7⟩
          clear b7
          go_wp2_with (first | (refine wpList_load_pfx (.tmp 13) rfl E ⟨V, x, (n : Nat)⟩ rfl H7.out.2.1 rfl ?_) | (refine wpList_store_pfx (.tmp 2) (.tmp 102) rfl rfl I pz ⟨V, x, (n : Nat)⟩ rfl rfl H7.out.1 rfl ?_))
          intro w8 h8 k8
          have H8 : Hid (PfxAt w8 I ⟨V, x, (n : Nat)⟩ ∧ Below w.heap.size w w8) := ⟨h8, H7.out.2.2.trans (k8.below (fun q hq => by have h2 := HOI.out; omega) H7.out.2.2.size)⟩
          clear h8 k8
          go_wp2_with fail
          refine bodyPost_ret (results_pf3 rfl _ _ I _ rfl H8.out.1) rfl ?_
          exact ⟨rfl, H8.out.2⟩
end Go.Proofs.YteldiggaooeeeaaGreatDoor
namespace Go.Proofs.YteldiggaooeeeaaGreatDoor
open Go.RowKit Go.Maps

set_option maxHeartbeats 1600000 in
set_option maxRecDepth 100000 in
theorem of_right {s : ByteArray} {k : Nat} {V : Int} {x : Nat → Nat} {n : Nat} (h : PfOk s k V x n) (U : Int) (y : Nat → Nat) (w : World) (hy : ∀ i, i < 16 → y i < 256) : Calls Tryz.prog 91 #[.string s, .agg (ipCells U y)] w fun r w' => r = .returned (.bool (cnR ⟨V, x, (n : Nat)⟩ U y)) ∧ Below w.heap.size w w' := by
  have HP : Hid (PfOk s k V x n) := h
  have HY : Hid (∀ i, i < 16 → y i < 256) := hy
  clear h hy
  have hb := ipr_new w U y
  have bel : Below w.heap.size w (w.alloc (.cells (ipCells U y) 28)) := (Below.refl _ _).alloc (Nat.le_refl _) _
  obtain ⟨CX, hC⟩ : ∃ C, C = ipCells U y := ⟨_, rfl⟩
  obtain ⟨W, hW⟩ : ∃ W_, W_ = w.alloc (.cells (ipCells U y) 28) := ⟨_, rfl⟩
  rw [← hW] at hb bel
  have HSZX : Hid (W.heap.size = w.heap.size + 1) := by show _ = _; rw [hW, World.size_alloc]
  obtain ⟨B, hB⟩ : ∃ B, B = w.heap.size := ⟨_, rfl⟩
  rw [← hB] at hb
  have HBX : Hid (IprAt W B U y) := hb
  rw [← hC] at hW ⊢
  have HOX : Hid (w.heap.size = B) := hB.symm
  have HLX : Hid (Below w.heap.size w W) := bel
  have HWX : Hid (w.alloc (.cells CX 28) = W) := hW.symm
  clear hb hW hB hC bel
  go_enter Tryz.func91, Tryz.ntmps91
  go_wp2_with (rw [HOX.out, HWX.out])
  refine (prefix_right HP.out W).mono ?_
  rintro e1 w1 ⟨rfl, b1⟩
  have H1 : Hid (IprAt w1 B U y ∧ Below w.heap.size w w1) := ⟨HBX.out.below b1, bthen HLX.out b1⟩
  clear b1
  obtain ⟨w2, hw2⟩ : ∃ w2, w2 = w1.alloc (.cells (pfC pz) 38) := ⟨_, rfl⟩
  have l2 : Below w1.heap.size w1 w2 := by rw [hw2]; exact (Below.refl _ _).alloc (Nat.le_refl _) _
  have a2 := pfx_new w1 pz
  rw [← hw2] at a2
  obtain ⟨D, hD⟩ : ∃ D, w1.heap.size = D := ⟨_, rfl⟩
  rw [hD] at a2
  have HOD : Hid (w1.heap.size = D) := hD
  have HW2 : Hid (w1.alloc (.cells (pfC pz) 38) = w2) := hw2.symm
  have H2 : Hid (IprAt w2 B U y ∧ PfxAt w2 D pz ∧ Below w.heap.size w w2 ∧ B < D) := ⟨H1.out.1.below l2, a2, bthen H1.out.2 l2, by rw [← hD]; exact H1.out.1.lt⟩
  clear hw2 l2 a2 hD
  go_wp2_with (first | (refine wpList_alloc_pfx rfl rfl ?_; rw [HW2.out, HOD.out]) | (refine wpList_store_pfx (.tmp 5) (.tmp 11) rfl rfl D pz ⟨V, x, (n : Nat)⟩ rfl rfl H2.out.2.1 rfl ?_))
  intro w3 h3 k3
  have H3 : Hid (IprAt w3 B U y ∧ PfxAt w3 D ⟨V, x, (n : Nat)⟩ ∧ Below w.heap.size w w3) := ⟨H2.out.1.ch k3 (by have := H2.out.2.2.2; omega), h3, H2.out.2.2.1.trans (k3.below (fun q hq => by have h1 := H2.out.2.2.2; have h2 := HOX.out; omega) H2.out.2.2.1.size)⟩
  clear h3 k3
  go_wp2_with (first | (refine wpList_load_pfx (.tmp 5) rfl D ⟨V, x, (n : Nat)⟩ rfl H3.out.2.1 rfl ?_) | (refine wpList_load_ipr (.tmp 3) rfl B U y rfl H3.out.1 rfl ?_))
  refine (containsR_any ⟨V, x, (n : Nat)⟩ U y w3 HP.out.xb HY.out).mono ?_
  rintro e1 w4 ⟨rfl, b4⟩
  have H4 : Hid (Below w.heap.size w w4) := bthen H3.out.2.2 b4
  clear b4
  go_wp2_with fail
  go_ret
  exact ⟨rfl, H4.out⟩
/-- the bytes of a list -/
def bt (L : List Nat) : Nat → Nat := fun i => L.getD i 0
theorem nodot {s : ByteArray} (h : ((List.range s.size).all fun i => sB s i != 46) = true) : ∀ i, sB s i ≠ 46 := by
  intro i
  by_cases hi : i < s.size
  · have := List.all_eq_true.1 h i (List.mem_range.2 hi)
    simpa using this
  · have : sB s i = 0 := by
      unfold sB
      have h2 : ¬ i < s.data.toList.length := hi
      rw [List.getD_eq_getElem?_getD, List.getElem?_eq_none (by omega)]
      rfl
    omega
def ckP (s : ByteArray) (k : Nat) (V : Int) (L : List Nat) (n : Nat) : Bool := decide (s.size ≤ 49) && decide (k + 1 < s.size) && ((List.range k).all fun i => sB s i != 47) && sB s k == 47 && ((List.range 16).all fun i => decide (bt L i < 256)) && ((List.range (s.size - (k + 1))).all fun i => dgB (sB s (k + 1 + i))) && decide (dcm s (k + 1) s.size (wdN V) = (n : Nat)) && vpR ⟨V, bt L, (n : Nat)⟩ == 0
theorem ckP_ok {s u : ByteArray} {k : Nat} {V : Int} {L : List Nat} {n : Nat} (h : ckP s k V L n = true) (hu : s.extract 0 k = u) (hip : ∀ w, Calls Tryz.prog 42 #[.string u] w fun r w' => r = .returned (.tuple #[.agg (ipCells V (bt L)), .int .i64 0, .int .i64 0]) ∧ Below w.heap.size w w') : PfOk s k V (bt L) n := by
  unfold ckP at h
  simp only [Bool.and_eq_true, decide_eq_true_eq, beq_iff_eq, List.all_eq_true, List.mem_range, bne_iff_ne] at h
  obtain ⟨⟨⟨⟨⟨⟨⟨h1, h2⟩, h3⟩, h4⟩, h5⟩, h6⟩, h7⟩, h8⟩ := h
  exact ⟨h1, h2, h3, h4, by rw [hu]; exact hip, h5, h6, h7, h8⟩
theorem pf4 {s : ByteArray} (u : ByteArray) {k : Nat} {L : List Nat} {n : Nat} (h : ckP s k 4 L n = true) (hu : s.extract 0 k = u) (hl : L.length = 4) (h1 : (decide (u.size ≤ 45) && !hsB u 58) = true) (hd : dtd u 4 0 [] = .inl L) : PfOk s k 4 (bt L) n := by
  simp at h1
  refine ckP_ok h hu (fun w => (parse4_right u L w h1.1 h1.2 hl hd).mono ?_)
  rintro r w' ⟨hr, b⟩
  refine ⟨?_, b⟩
  have e : ipCells 4 (pre L 4) = ipCells 4 (bt L) := by
    have : pre L 4 = bt L := by
      funext j
      unfold pre bt
      by_cases hj : j < 4
      · rw [if_pos hj]
      · rw [if_neg hj, List.getD_eq_getElem?_getD, List.getElem?_eq_none (by omega)]; rfl
    rw [this]
  rw [hr, e]
theorem pf6 {s : ByteArray} (u : ByteArray) {k : Nat} {L : List Nat} {n : Nat} (h : ckP s k 6 L n = true) (hu : s.extract 0 k = u) (h1 : (decide (u.size ≤ 45) && hsB u 58 && ((List.range u.size).all fun i => sB u i != 46) && (sxL u).er == 0 && !(decide ((sxL u).gap < 0) && decide ((sxL u).g.length < 8))) = true) (he : ipCells 6 (fil (sxL u) (sxL u).g.length) = ipCells 6 (bt L)) : PfOk s k 6 (bt L) n := by
  simp only [Bool.and_eq_true] at h1
  obtain ⟨⟨⟨⟨a1, a2⟩, a3⟩, a4⟩, a5⟩ := h1
  refine ckP_ok h hu (fun w => (parse6_right u w (by simpa using a1) a2 (nodot a3) (by simpa using a4) ((Bool.not_eq_true' _).mp a5)).mono ?_)
  rintro r w' ⟨hr, b⟩
  exact ⟨by rw [hr, he], b⟩
theorem tx4_0 : PfOk ⟨#[48, 46, 48, 46, 48, 46, 48, 47, 51, 50]⟩ 7 4 (bt [0, 0, 0, 0]) 32 := pf4 ⟨#[48, 46, 48, 46, 48, 46, 48]⟩ (by decide +kernel) (by kernel_rfl) rfl (by decide +kernel) (by kernel_rfl)
theorem tx4_1 : PfOk ⟨#[49, 50, 55, 46, 48, 46, 48, 46, 48, 47, 56]⟩ 9 4 (bt [127, 0, 0, 0]) 8 := pf4 ⟨#[49, 50, 55, 46, 48, 46, 48, 46, 48]⟩ (by decide +kernel) (by kernel_rfl) rfl (by decide +kernel) (by kernel_rfl)
theorem tx4_2 : PfOk ⟨#[50, 50, 52, 46, 48, 46, 48, 46, 48, 47, 52]⟩ 9 4 (bt [224, 0, 0, 0]) 4 := pf4 ⟨#[50, 50, 52, 46, 48, 46, 48, 46, 48]⟩ (by decide +kernel) (by kernel_rfl) rfl (by decide +kernel) (by kernel_rfl)
theorem tx4_3 : PfOk ⟨#[49, 54, 57, 46, 50, 53, 52, 46, 48, 46, 48, 47, 49, 54]⟩ 11 4 (bt [169, 254, 0, 0]) 16 := pf4 ⟨#[49, 54, 57, 46, 50, 53, 52, 46, 48, 46, 48]⟩ (by decide +kernel) (by kernel_rfl) rfl (by decide +kernel) (by kernel_rfl)
theorem tx4_4 : PfOk ⟨#[50, 53, 53, 46, 50, 53, 53, 46, 50, 53, 53, 46, 50, 53, 53, 47, 51, 50]⟩ 15 4 (bt [255, 255, 255, 255]) 32 := pf4 ⟨#[50, 53, 53, 46, 50, 53, 53, 46, 50, 53, 53, 46, 50, 53, 53]⟩ (by decide +kernel) (by kernel_rfl) rfl (by decide +kernel) (by kernel_rfl)
theorem tx4_5 : PfOk ⟨#[48, 46, 48, 46, 48, 46, 48, 47, 56]⟩ 7 4 (bt [0, 0, 0, 0]) 8 := pf4 ⟨#[48, 46, 48, 46, 48, 46, 48]⟩ (by decide +kernel) (by kernel_rfl) rfl (by decide +kernel) (by kernel_rfl)
theorem tx4_6 : PfOk ⟨#[50, 52, 48, 46, 48, 46, 48, 46, 48, 47, 52]⟩ 9 4 (bt [240, 0, 0, 0]) 4 := pf4 ⟨#[50, 52, 48, 46, 48, 46, 48, 46, 48]⟩ (by decide +kernel) (by kernel_rfl) rfl (by decide +kernel) (by kernel_rfl)
theorem tx6_0 : PfOk ⟨#[58, 58, 47, 49, 50, 56]⟩ 2 6 (bt [0, 0, 0, 0, 0, 0, 0, 0, 0, 0, 0, 0, 0, 0, 0, 0]) 128 := pf6 ⟨#[58, 58]⟩ (by decide +kernel) (by kernel_rfl) (by decide +kernel) (by kernel_rfl)
theorem tx6_1 : PfOk ⟨#[58, 58, 49, 47, 49, 50, 56]⟩ 3 6 (bt [0, 0, 0, 0, 0, 0, 0, 0, 0, 0, 0, 0, 0, 0, 0, 1]) 128 := pf6 ⟨#[58, 58, 49]⟩ (by decide +kernel) (by kernel_rfl) (by decide +kernel) (by kernel_rfl)
theorem tx6_2 : PfOk ⟨#[102, 102, 48, 48, 58, 58, 47, 56]⟩ 6 6 (bt [255, 0, 0, 0, 0, 0, 0, 0, 0, 0, 0, 0, 0, 0, 0, 0]) 8 := pf6 ⟨#[102, 102, 48, 48, 58, 58]⟩ (by decide +kernel) (by kernel_rfl) (by decide +kernel) (by kernel_rfl)
theorem tx6_3 : PfOk ⟨#[102, 101, 56, 48, 58, 58, 47, 49, 48]⟩ 6 6 (bt [254, 128, 0, 0, 0, 0, 0, 0, 0, 0, 0, 0, 0, 0, 0, 0]) 10 := pf6 ⟨#[102, 101, 56, 48, 58, 58]⟩ (by decide +kernel) (by kernel_rfl) (by decide +kernel) (by kernel_rfl)
theorem tx6_4 : PfOk ⟨#[58, 58, 47, 56]⟩ 2 6 (bt [0, 0, 0, 0, 0, 0, 0, 0, 0, 0, 0, 0, 0, 0, 0, 0]) 8 := pf6 ⟨#[58, 58]⟩ (by decide +kernel) (by kernel_rfl) (by decide +kernel) (by kernel_rfl)
end Go.Proofs.YteldiggaooeeeaaGreatDoor
namespace Go.Proofs.YteldiggaooeeeaaGreatDoor
open Go.RowKit Go.Maps

/-- what kind of address it is -/
def clR (V : Int) (x : Nat → Nat) : Nat :=
  if !vR V x then 0 else
  if cnR ⟨4, bt [0, 0, 0, 0], ((32 : Nat) : Int)⟩ V x || cnR ⟨6, bt [0, 0, 0, 0, 0, 0, 0, 0, 0, 0, 0, 0, 0, 0, 0, 0], ((128 : Nat) : Int)⟩ V x then 1 else
  if cnR ⟨4, bt [127, 0, 0, 0], ((8 : Nat) : Int)⟩ V x || cnR ⟨6, bt [0, 0, 0, 0, 0, 0, 0, 0, 0, 0, 0, 0, 0, 0, 0, 1], ((128 : Nat) : Int)⟩ V x then 2 else
  if cnR ⟨4, bt [224, 0, 0, 0], ((4 : Nat) : Int)⟩ V x || cnR ⟨6, bt [255, 0, 0, 0, 0, 0, 0, 0, 0, 0, 0, 0, 0, 0, 0, 0], ((8 : Nat) : Int)⟩ V x then 3 else
  if cnR ⟨4, bt [169, 254, 0, 0], ((16 : Nat) : Int)⟩ V x || cnR ⟨6, bt [254, 128, 0, 0, 0, 0, 0, 0, 0, 0, 0, 0, 0, 0, 0, 0], ((10 : Nat) : Int)⟩ V x then 4 else
  if cnR ⟨4, bt [255, 255, 255, 255], ((32 : Nat) : Int)⟩ V x then 5 else
  if cnR ⟨4, bt [0, 0, 0, 0], ((8 : Nat) : Int)⟩ V x || cnR ⟨4, bt [240, 0, 0, 0], ((4 : Nat) : Int)⟩ V x || cnR ⟨6, bt [0, 0, 0, 0, 0, 0, 0, 0, 0, 0, 0, 0, 0, 0, 0, 0], ((8 : Nat) : Int)⟩ V x then 6 else
  7
set_option maxHeartbeats 1600000 in
set_option maxRecDepth 100000 in
theorem classR_any (V : Int) (x : Nat → Nat) (w : World) (hx : ∀ i, i < 16 → x i < 256) : Calls Tryz.prog 59 #[.agg (ipCells V x)] w fun r w' => r = .returned (.int .i64 (clR V x : Nat)) ∧ Below w.heap.size w w' := by
  have hb := ipr_new w V x
  have bel : Below w.heap.size w (w.alloc (.cells (ipCells V x) 28)) := (Below.refl _ _).alloc (Nat.le_refl _) _
  obtain ⟨CX, hC⟩ : ∃ C, C = ipCells V x := ⟨_, rfl⟩
  obtain ⟨W, hW⟩ : ∃ W_, W_ = w.alloc (.cells (ipCells V x) 28) := ⟨_, rfl⟩
  rw [← hW] at hb bel
  have HSZX : Hid (W.heap.size = w.heap.size + 1) := by show _ = _; rw [hW, World.size_alloc]
  obtain ⟨B, hB⟩ : ∃ B, B = w.heap.size := ⟨_, rfl⟩
  rw [← hB] at hb
  have HBX : Hid (IprAt W B V x) := hb
  rw [← hC] at hW ⊢
  have HOX : Hid (w.heap.size = B) := hB.symm
  have HLX : Hid (Below w.heap.size w W) := bel
  have HWX : Hid (w.alloc (.cells CX 28) = W) := hW.symm
  clear hb hW hB hC bel
  have HX : Hid (∀ i, i < 16 → x i < 256) := hx
  have H0 : Hid (IprAt W B V x ∧ Below w.heap.size w W) := ⟨HBX.out, HLX.out⟩
  obtain ⟨bv, hbv⟩ : ∃ b, vR V x = b := ⟨_, rfl⟩
  have HV : Hid (vR V x = bv) := hbv
  clear hx hbv
  go_enter Tryz.func59, Tryz.ntmps59
  go_wp2_with (first | (rw [HOX.out, HWX.out]) | (refine wpList_load_ipr (.tmp 1) rfl B V x rfl H0.out.1 rfl ?_))
  refine (validR_any V x W).mono ?_
  rintro e1 w0 ⟨rfl, b0⟩
  rw [HV.out]
  have K0 : Hid (IprAt w0 B V x ∧ Below w.heap.size w w0) := ⟨H0.out.1.below b0, bthen H0.out.2 b0⟩
  clear b0
  cases bv with
  | false =>
    have HR : Hid (clR V x = 0) := by show _ = _; unfold clR; rw [HV.out]; rfl
    go_wp2_with fail
    go_ret
    exact ⟨by rw [HR.out]; rfl, K0.out.2⟩
  | true =>
    obtain ⟨b0, hb0⟩ : ∃ b, cnR ⟨4, bt [0, 0, 0, 0], ((32 : Nat) : Int)⟩ V x = b := ⟨_, rfl⟩
    have HC0 : Hid (cnR ⟨4, bt [0, 0, 0, 0], ((32 : Nat) : Int)⟩ V x = b0) := hb0
    clear hb0
    go_wp2_with (first | (refine wpList_load_ipr (.tmp 1) rfl B V x rfl K0.out.1 rfl ?_))
    refine (of_right tx4_0 V x w0 HX.out).mono ?_
    rintro e1 w1 ⟨rfl, bb⟩
    rw [HC0.out]
    have K1 : Hid (IprAt w1 B V x ∧ Below w.heap.size w w1) := ⟨K0.out.1.below bb, bthen K0.out.2 bb⟩
    clear bb K0
    cases b0 with
    | true =>
      have HR : Hid (clR V x = 1) := by show _ = _; unfold clR; rw [HV.out, HC0.out]; rfl
      go_wp2_with fail
      go_ret
      exact ⟨by rw [HR.out]; rfl, K1.out.2⟩
    | false =>
      obtain ⟨b1, hb1⟩ : ∃ b, cnR ⟨6, bt [0, 0, 0, 0, 0, 0, 0, 0, 0, 0, 0, 0, 0, 0, 0, 0], ((128 : Nat) : Int)⟩ V x = b := ⟨_, rfl⟩
      have HC1 : Hid (cnR ⟨6, bt [0, 0, 0, 0, 0, 0, 0, 0, 0, 0, 0, 0, 0, 0, 0, 0], ((128 : Nat) : Int)⟩ V x = b1) := hb1
      clear hb1
      go_wp2_with (first | (refine wpList_load_ipr (.tmp 1) rfl B V x rfl K1.out.1 rfl ?_))
      refine (of_right tx6_0 V x w1 HX.out).mono ?_
      rintro e1 w2 ⟨rfl, bb⟩
      rw [HC1.out]
      have K2 : Hid (IprAt w2 B V x ∧ Below w.heap.size w w2) := ⟨K1.out.1.below bb, bthen K1.out.2 bb⟩
      clear bb K1
      cases b1 with
      | true =>
        have HR : Hid (clR V x = 1) := by show _ = _; unfold clR; rw [HV.out, HC0.out, HC1.out]; rfl
        go_wp2_with fail
        go_ret
        exact ⟨by rw [HR.out]; rfl, K2.out.2⟩
      | false =>
        obtain ⟨b2, hb2⟩ : ∃ b, cnR ⟨4, bt [127, 0, 0, 0], ((8 : Nat) : Int)⟩ V x = b := ⟨_, rfl⟩
        have HC2 : Hid (cnR ⟨4, bt [127, 0, 0, 0], ((8 : Nat) : Int)⟩ V x = b2) := hb2
        clear hb2
        go_wp2_with (first | (refine wpList_load_ipr (.tmp 1) rfl B V x rfl K2.out.1 rfl ?_))
        refine (of_right tx4_1 V x w2 HX.out).mono ?_
        rintro e1 w3 ⟨rfl, bb⟩
        rw [HC2.out]
        have K3 : Hid (IprAt w3 B V x ∧ Below w.heap.size w w3) := ⟨K2.out.1.below bb, bthen K2.out.2 bb⟩
        clear bb K2
        cases b2 with
        | true =>
          have HR : Hid (clR V x = 2) := by show _ = _; unfold clR; rw [HV.out, HC0.out, HC1.out, HC2.out]; rfl
          go_wp2_with fail
          go_ret
          exact ⟨by rw [HR.out]; rfl, K3.out.2⟩
        | false =>
          obtain ⟨b3, hb3⟩ : ∃ b, cnR ⟨6, bt [0, 0, 0, 0, 0, 0, 0, 0, 0, 0, 0, 0, 0, 0, 0, 1], ((128 : Nat) : Int)⟩ V x = b := ⟨_, rfl⟩
          have HC3 : Hid (cnR ⟨6, bt [0, 0, 0, 0, 0, 0, 0, 0, 0, 0, 0, 0, 0, 0, 0, 1], ((128 : Nat) : Int)⟩ V x = b3) := hb3
          clear hb3
          go_wp2_with (first | (refine wpList_load_ipr (.tmp 1) rfl B V x rfl K3.out.1 rfl ?_))
          refine (of_right tx6_1 V x w3 HX.out).mono ?_
          rintro e1 w4 ⟨rfl, bb⟩
          rw [HC3.out]
          have K4 : Hid (IprAt w4 B V x ∧ Below w.heap.size w w4) := ⟨K3.out.1.below bb, bthen K3.out.2 bb⟩
          clear bb K3
          cases b3 with
          | true =>
            have HR : Hid (clR V x = 2) := by show _ = _; unfold clR; rw [HV.out, HC0.out, HC1.out, HC2.out, HC3.out]; rfl
            go_wp2_with fail
            go_ret
            exact ⟨by rw [HR.out]; rfl, K4.out.2⟩
          | false =>
            obtain ⟨b4, hb4⟩ : ∃ b, cnR ⟨4, bt [224, 0, 0, 0], ((4 : Nat) : Int)⟩ V x = b := ⟨_, rfl⟩
            have HC4 : Hid (cnR ⟨4, bt [224, 0, 0, 0], ((4 : Nat) : Int)⟩ V x = b4) := hb4
            clear hb4
            go_wp2_with (first | (refine wpList_load_ipr (.tmp 1) rfl B V x rfl K4.out.1 rfl ?_))
            refine (of_right tx4_2 V x w4 HX.out).mono ?_
            rintro e1 w5 ⟨rfl, bb⟩
            rw [HC4.out]
            have K5 : Hid (IprAt w5 B V x ∧ Below w.heap.size w w5) := ⟨K4.out.1.below bb, bthen K4.out.2 bb⟩
            clear bb K4
            cases b4 with
            | true =>
              have HR : Hid (clR V x = 3) := by show _ = _; unfold clR; rw [HV.out, HC0.out, HC1.out, HC2.out, HC3.out, HC4.out]; rfl
              go_wp2_with fail
              go_ret
              exact ⟨by rw [HR.out]; rfl, K5.out.2⟩
            | false =>
              obtain ⟨b5, hb5⟩ : ∃ b, cnR ⟨6, bt [255, 0, 0, 0, 0, 0, 0, 0, 0, 0, 0, 0, 0, 0, 0, 0], ((8 : Nat) : Int)⟩ V x = b := ⟨_, rfl⟩
              have HC5 : Hid (cnR ⟨6, bt [255, 0, 0, 0, 0, 0, 0, 0, 0, 0, 0, 0, 0, 0, 0, 0], ((8 : Nat) : Int)⟩ V x = b5) := hb5
              clear hb5
              go_wp2_with (first | (refine wpList_load_ipr (.tmp 1) rfl B V x rfl K5.out.1 rfl ?_))
              refine (of_right tx6_2 V x w5 HX.out).mono ?_
              rintro e1 w6 ⟨rfl, bb⟩
              rw [HC5.out]
              have K6 : Hid (IprAt w6 B V x ∧ Below w.heap.size w w6) := ⟨K5.out.1.below bb, bthen K5.out.2 bb⟩
              clear bb K5
              cases b5 with
              | true =>
                have HR : Hid (clR V x = 3) := by show _ = _; unfold clR; rw [HV.out, HC0.out, HC1.out, HC2.out, HC3.out, HC4.out, HC5.out]; rfl
                go_wp2_with fail
                go_ret
                exact ⟨by rw [HR.out]; rfl, K6.out.2⟩
              | false =>
                obtain ⟨b6, hb6⟩ : ∃ b, cnR ⟨4, bt [169, 254, 0, 0], ((16 : Nat) : Int)⟩ V x = b := ⟨_, rfl⟩
                have HC6 : Hid (cnR ⟨4, bt [169, 254, 0, 0], ((16 : Nat) : Int)⟩ V x = b6) := hb6
                clear hb6
                go_wp2_with (first | (refine wpList_load_ipr (.tmp 1) rfl B V x rfl K6.out.1 rfl ?_))
                refine (of_right tx4_3 V x w6 HX.out).mono ?_
                rintro e1 w7 ⟨rfl, bb⟩
                rw [HC6.out]
                have K7 : Hid (IprAt w7 B V x ∧ Below w.heap.size w w7) := ⟨K6.out.1.below bb, bthen K6.out.2 bb⟩
                clear bb K6
                cases b6 with
                | true =>
                  have HR : Hid (clR V x = 4) := by show _ = _; unfold clR; rw [HV.out, HC0.out, HC1.out, HC2.out, HC3.out, HC4.out, HC5.out, HC6.out]; rfl
                  go_wp2_with fail
                  go_ret
                  exact ⟨by rw [HR.out]; rfl, K7.out.2⟩
                | false =>
                  obtain ⟨b7, hb7⟩ : ∃ b, cnR ⟨6, bt [254, 128, 0, 0, 0, 0, 0, 0, 0, 0, 0, 0, 0, 0, 0, 0], ((10 : Nat) : Int)⟩ V x = b := ⟨_, rfl⟩
                  have HC7 : Hid (cnR ⟨6, bt [254, 128, 0, 0, 0, 0, 0, 0, 0, 0, 0, 0, 0, 0, 0, 0], ((10 : Nat) : Int)⟩ V x = b7) := hb7
                  clear hb7
                  go_wp2_with (first | (refine wpList_load_ipr (.tmp 1) rfl B V x rfl K7.out.1 rfl ?_))
                  refine (of_right tx6_3 V x w7 HX.out).mono ?_
                  rintro e1 w8 ⟨rfl, bb⟩
                  rw [HC7.out]
                  have K8 : Hid (IprAt w8 B V x ∧ Below w.heap.size w w8) := ⟨K7.out.1.below bb, bthen K7.out.2 bb⟩
                  clear bb K7
                  cases b7 with
                  | true =>
                    have HR : Hid (clR V x = 4) := by show _ = _; unfold clR; rw [HV.out, HC0.out, HC1.out, HC2.out, HC3.out, HC4.out, HC5.out, HC6.out, HC7.out]; rfl
                    go_wp2_with fail
                    go_ret
                    exact ⟨by rw [HR.out]; rfl, K8.out.2⟩
                  | false =>
                    obtain ⟨b8, hb8⟩ : ∃ b, cnR ⟨4, bt [255, 255, 255, 255], ((32 : Nat) : Int)⟩ V x = b := ⟨_, rfl⟩
                    have HC8 : Hid (cnR ⟨4, bt [255, 255, 255, 255], ((32 : Nat) : Int)⟩ V x = b8) := hb8
                    clear hb8
                    go_wp2_with (first | (refine wpList_load_ipr (.tmp 1) rfl B V x rfl K8.out.1 rfl ?_))
                    refine (of_right tx4_4 V x w8 HX.out).mono ?_
                    rintro e1 w9 ⟨rfl, bb⟩
                    rw [HC8.out]
                    have K9 : Hid (IprAt w9 B V x ∧ Below w.heap.size w w9) := ⟨K8.out.1.below bb, bthen K8.out.2 bb⟩
                    clear bb K8
                    cases b8 with
                    | true =>
                      have HR : Hid (clR V x = 5) := by show _ = _; unfold clR; rw [HV.out, HC0.out, HC1.out, HC2.out, HC3.out, HC4.out, HC5.out, HC6.out, HC7.out, HC8.out]; rfl
                      go_wp2_with fail
                      go_ret
                      exact ⟨by rw [HR.out]; rfl, K9.out.2⟩
                    | false =>
                      obtain ⟨b9, hb9⟩ : ∃ b, cnR ⟨4, bt [0, 0, 0, 0], ((8 : Nat) : Int)⟩ V x = b := ⟨_, rfl⟩
                      have HC9 : Hid (cnR ⟨4, bt [0, 0, 0, 0], ((8 : Nat) : Int)⟩ V x = b9) := hb9
                      clear hb9
                      go_wp2_with (first | (refine wpList_load_ipr (.tmp 1) rfl B V x rfl K9.out.1 rfl ?_))
                      refine (of_right tx4_5 V x w9 HX.out).mono ?_
                      rintro e1 w10 ⟨rfl, bb⟩
                      rw [HC9.out]
                      have K10 : Hid (IprAt w10 B V x ∧ Below w.heap.size w w10) := ⟨K9.out.1.below bb, bthen K9.out.2 bb⟩
                      clear bb K9
                      cases b9 with
                      | true =>
                        have HR : Hid (clR V x = 6) := by show _ = _; unfold clR; rw [HV.out, HC0.out, HC1.out, HC2.out, HC3.out, HC4.out, HC5.out, HC6.out, HC7.out, HC8.out, HC9.out]; rfl
                        go_wp2_with fail
                        go_ret
                        exact ⟨by rw [HR.out]; rfl, K10.out.2⟩
                      | false =>
                        obtain ⟨b10, hb10⟩ : ∃ b, cnR ⟨4, bt [240, 0, 0, 0], ((4 : Nat) : Int)⟩ V x = b := ⟨_, rfl⟩
                        have HC10 : Hid (cnR ⟨4, bt [240, 0, 0, 0], ((4 : Nat) : Int)⟩ V x = b10) := hb10
                        clear hb10
                        go_wp2_with (first | (refine wpList_load_ipr (.tmp 1) rfl B V x rfl K10.out.1 rfl ?_))
                        refine (of_right tx4_6 V x w10 HX.out).mono ?_
                        rintro e1 w11 ⟨rfl, bb⟩
                        rw [HC10.out]
                        have K11 : Hid (IprAt w11 B V x ∧ Below w.heap.size w w11) := ⟨K10.out.1.below bb, bthen K10.out.2 bb⟩
                        clear bb K10
                        cases b10 with
                        | true =>
                          have HR : Hid (clR V x = 6) := by show _ = _; unfold clR; rw [HV.out, HC0.out, HC1.out, HC2.out, HC3.out, HC4.out, HC5.out, HC6.out, HC7.out, HC8.out, HC9.out, HC10.out]; rfl
                          go_wp2_with fail
                          go_ret
                          exact ⟨by rw [HR.out]; rfl, K11.out.2⟩
                        | false =>
                          obtain ⟨b11, hb11⟩ : ∃ b, cnR ⟨6, bt [0, 0, 0, 0, 0, 0, 0, 0, 0, 0, 0, 0, 0, 0, 0, 0], ((8 : Nat) : Int)⟩ V x = b := ⟨_, rfl⟩
                          have HC11 : Hid (cnR ⟨6, bt [0, 0, 0, 0, 0, 0, 0, 0, 0, 0, 0, 0, 0, 0, 0, 0], ((8 : Nat) : Int)⟩ V x = b11) := hb11
                          clear hb11
                          go_wp2_with (first | (refine wpList_load_ipr (.tmp 1) rfl B V x rfl K11.out.1 rfl ?_))
                          refine (of_right tx6_4 V x w11 HX.out).mono ?_
                          rintro e1 w12 ⟨rfl, bb⟩
                          rw [HC11.out]
                          have K12 : Hid (IprAt w12 B V x ∧ Below w.heap.size w w12) := ⟨K11.out.1.below bb, bthen K11.out.2 bb⟩
                          clear bb K11
                          cases b11 with
                          | true =>
                            have HR : Hid (clR V x = 6) := by show _ = _; unfold clR; rw [HV.out, HC0.out, HC1.out, HC2.out, HC3.out, HC4.out, HC5.out, HC6.out, HC7.out, HC8.out, HC9.out, HC10.out, HC11.out]; rfl
                            go_wp2_with fail
                            go_ret
                            exact ⟨by rw [HR.out]; rfl, K12.out.2⟩
                          | false =>
                            have HR : Hid (clR V x = 7) := by show _ = _; unfold clR; rw [HV.out, HC0.out, HC1.out, HC2.out, HC3.out, HC4.out, HC5.out, HC6.out, HC7.out, HC8.out, HC9.out, HC10.out, HC11.out]; rfl
                            go_wp2_with fail
                            go_ret
                            exact ⟨by rw [HR.out]; rfl, K12.out.2⟩
end Go.Proofs.YteldiggaooeeeaaGreatDoor
