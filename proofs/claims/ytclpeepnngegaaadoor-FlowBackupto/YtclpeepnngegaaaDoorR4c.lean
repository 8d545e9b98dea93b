/-
  weirref4: Valid, width, bit.
-/
import Derived.Test.YtclpeepnngegaaaDoorR4b
import Derived.Test.YtclpeepnngegaaaDoorFlSt
namespace Go.Proofs.YtclpeepnngegaaaDoor
open Go.RowKit Go.Maps

theorem ip_byte (V : Int) (x : Nat → Nat) (k : Nat) (h : k < 16) : (ipCells V x)[k + 1]? = some (.int .u8 (x k : Nat)) := by
  have : k = 0 ∨ k = 1 ∨ k = 2 ∨ k = 3 ∨ k = 4 ∨ k = 5 ∨ k = 6 ∨ k = 7 ∨ k = 8 ∨ k = 9 ∨ k = 10 ∨ k = 11 ∨ k = 12 ∨ k = 13 ∨ k = 14 ∨ k = 15 := by omega
  rcases this with rfl | rfl | rfl | rfl | rfl | rfl | rfl | rfl | rfl | rfl | rfl | rfl | rfl | rfl | rfl | rfl <;> rfl
theorem IprAt.byte {w : World} {O : Nat} {V : Int} {x : Nat → Nat} (h : IprAt w O V x) (k : Nat) (hk : k < 16) : w.cell? ⟨O, 1 + k, none⟩ = some (.int .u8 (x k : Nat)) := by
  rw [Nat.add_comm]; exact (h.cell (k + 1)).trans (ip_byte V x k hk)
theorem IprAt.ver {w : World} {O : Nat} {V : Int} {x : Nat → Nat} (h : IprAt w O V x) : w.cell? ⟨O, 0, none⟩ = some (.int .i64 V) := h.cell 0
/-- is it an address? -/
def vR (V : Int) (x : Nat → Nat) : Bool := if V == 4 then (List.range 12).all fun i => x (4 + i) == 0 else V == 6
theorem vR_no {x : Nat → Nat} {k : Nat} (h1 : 4 ≤ k) (h2 : k < 16) (h : x k ≠ 0) : ((List.range 12).all fun i => x (4 + i) == 0) = false := by
  rw [List.all_eq_false]
  exact ⟨k - 4, List.mem_range.2 (by omega), by rw [show 4 + (k - 4) = k by omega]; simp [h]⟩
theorem vR_yes {x : Nat → Nat} (h : ∀ i, 4 ≤ i → i < 16 → x i = 0) : ((List.range 12).all fun i => x (4 + i) == 0) = true := by
  rw [List.all_eq_true]
  intro i hi
  have := List.mem_range.1 hi
  simp [h (4 + i) (by omega) (by omega)]
set_option maxHeartbeats 1600000 in
set_option maxRecDepth 100000 in
theorem validR_any (V : Int) (x : Nat → Nat) (w : World) : Calls Tryd.prog 49 #[.agg (ipCells V x)] w fun r w' => r = .returned (.bool (vR V x)) ∧ Below w.heap.size w w' := by
  have hb := ipr_new w V x
  have bel : Below w.heap.size w (w.alloc (.cells (ipCells V x) 24)) := (Below.refl _ _).alloc (Nat.le_refl _) _
  obtain ⟨CX, hC⟩ : ∃ C, C = ipCells V x := ⟨_, rfl⟩
  obtain ⟨W, hW⟩ : ∃ W_, W_ = w.alloc (.cells (ipCells V x) 24) := ⟨_, rfl⟩
  rw [← hW] at hb bel
  have HSZX : Hid (W.heap.size = w.heap.size + 1) := by show _ = _; rw [hW, World.size_alloc]
  obtain ⟨B, hB⟩ : ∃ B, B = w.heap.size := ⟨_, rfl⟩
  rw [← hB] at hb
  have HBX : Hid (IprAt W B V x) := hb
  rw [← hC] at hW ⊢
  have HOX : Hid (w.heap.size = B) := hB.symm
  have HLX : Hid (Below w.heap.size w W) := bel
  have HWX : Hid (w.alloc (.cells CX 24) = W) := hW.symm
  clear hb hW hB hC bel
  have c0 := HBX.out.ver
  go_enter Tryd.func49, Tryd.ntmps49
  by_cases h4 : V = 4
  · subst h4
    go_wp2_with (rw [HOX.out, HWX.out])
    go_loopw [3] (fun ix wr => ∃ k : Nat, 4 ≤ k ∧ k ≤ 16 ∧ ix = .int .i64 (k : Nat) ∧ (∀ i, 4 ≤ i → i < k → x i = 0) ∧ W = wr) (fun ix _ => 16 - (intOf ix).toNat)
    case atStart => exact ⟨4, by omega, by omega, rfl, fun i h1 h2 => by omega, rfl⟩
    case round =>
      obtain ⟨k, hk1, hk2, rfl, hN, rfl⟩ := hrel
      have HN : Hid (∀ i, 4 ≤ i → i < k → x i = 0) := hN
      have HK : Hid (4 ≤ k) := hk1
      clear hN hk1
      by_cases hlt : k < 16
      · have q1 : decide ((k : Int) < 16) = true := decide_eq_true (by omega)
        have l1 : (k : Int) < 16 := by omega
        have w1 : IntKind.i64.wrap ((k : Int) + 1) = (k : Int) + 1 := i64_s _ (by omega) (by omega)
        have h0 := HBX.out.byte k hlt
        have HLT : Hid (k < 16) := hlt
        by_cases he : x k = 0
        · have qe : (((x k : Nat) : Int) == 0) = true := by simp [he]
          have qn : (((x k : Nat) : Int) != 0) = false := by simp [he]
          have HE : Hid (x k = 0) := he
          clear he
          go_wp2
          go_roundw
          case rel => exact ⟨k + 1, by have := HK.out; omega, HLT.out, by simp, fun i h1 h2 => if h : i = k then h ▸ HE.out else HN.out i h1 (by omega), by first | rfl | trivial⟩
          case measure => have := HLT.out; simp [intOf]; omega
        · have qe : (((x k : Nat) : Int) == 0) = false := by simp [he]
          have qn : (((x k : Nat) : Int) != 0) = true := by simp [he]
          have HR : Hid (vR 4 x = false) := by show _ = _; unfold vR; refine Eq.trans (if_pos (by decide)) ?_; exact vR_no HK.out HLT.out he
          clear he
          go_wp2
          go_ret
          exact ⟨by rw [HR.out]; rfl, HLX.out⟩
      · have q1 : decide ((k : Int) < 16) = false := decide_eq_false (by omega)
        have l1 : ¬ (k : Int) < 16 := by omega
        have HR : Hid (vR 4 x = true) := by show _ = _; unfold vR; refine Eq.trans (if_pos (by decide)) ?_; exact vR_yes (fun i h1 h2 => HN.out i h1 (by omega))
        clear hlt
        go_wp2
        go_ret
        exact ⟨by rw [HR.out]; rfl, HLX.out⟩
  · have q4 : (V == 4) = false := by simp [h4]
    have q5 : (V != 4) = true := by simp [h4]
    have HR : Hid (vR V x = (V == 6)) := by show _ = _; unfold vR; rw [q4]; rfl
    clear h4
    go_wp2_with (rw [HOX.out, HWX.out])
    go_ret
    exact ⟨by rw [HR.out]; rfl, HLX.out⟩
/-- how many bits it has -/
def wdN (V : Int) : Nat := if V == 4 then 32 else 128
set_option maxHeartbeats 1600000 in
set_option maxRecDepth 100000 in
theorem width_any (V : Int) (x : Nat → Nat) (w : World) : Calls Tryd.prog 78 #[.agg (ipCells V x)] w fun r w' => r = .returned (.int .i64 (wdN V : Nat)) ∧ Below w.heap.size w w' := by
  have hb := ipr_new w V x
  have bel : Below w.heap.size w (w.alloc (.cells (ipCells V x) 24)) := (Below.refl _ _).alloc (Nat.le_refl _) _
  obtain ⟨CX, hC⟩ : ∃ C, C = ipCells V x := ⟨_, rfl⟩
  obtain ⟨W, hW⟩ : ∃ W_, W_ = w.alloc (.cells (ipCells V x) 24) := ⟨_, rfl⟩
  rw [← hW] at hb bel
  have HSZX : Hid (W.heap.size = w.heap.size + 1) := by show _ = _; rw [hW, World.size_alloc]
  obtain ⟨B, hB⟩ : ∃ B, B = w.heap.size := ⟨_, rfl⟩
  rw [← hB] at hb
  have HBX : Hid (IprAt W B V x) := hb
  rw [← hC] at hW ⊢
  have HOX : Hid (w.heap.size = B) := hB.symm
  have HLX : Hid (Below w.heap.size w W) := bel
  have HWX : Hid (w.alloc (.cells CX 24) = W) := hW.symm
  clear hb hW hB hC bel
  have c0 := HBX.out.ver
  go_enter Tryd.func78, Tryd.ntmps78
  by_cases h4 : V = 4
  · subst h4
    go_wp2_with (rw [HOX.out, HWX.out])
    go_ret
    exact ⟨rfl, HLX.out⟩
  · have q4 : (V == 4) = false := by simp [h4]
    have HR : Hid (wdN V = 128) := by show _ = _; unfold wdN; rw [q4]; rfl
    clear h4
    go_wp2_with (rw [HOX.out, HWX.out])
    go_ret
    exact ⟨by rw [HR.out]; rfl, HLX.out⟩
/-- the i-th bit -/
def btN (x : Nat → Nat) (i : Nat) : Nat := x (i / 8) / 2 ^ (7 - i % 8) % 2
set_option maxHeartbeats 1600000 in
set_option maxRecDepth 100000 in
theorem bit_any (V : Int) (x : Nat → Nat) (i : Nat) (w : World) (hi : i < 128) (hx : ∀ i, i < 16 → x i < 256) : Calls Tryd.prog 80 #[.agg (ipCells V x), .int .i64 (i : Nat)] w fun r w' => r = .returned (.int .i64 (btN x i : Nat)) ∧ Below w.heap.size w w' := by
  have hb := ipr_new w V x
  have bel : Below w.heap.size w (w.alloc (.cells (ipCells V x) 24)) := (Below.refl _ _).alloc (Nat.le_refl _) _
  obtain ⟨CX, hC⟩ : ∃ C, C = ipCells V x := ⟨_, rfl⟩
  obtain ⟨W, hW⟩ : ∃ W_, W_ = w.alloc (.cells (ipCells V x) 24) := ⟨_, rfl⟩
  rw [← hW] at hb bel
  have HSZX : Hid (W.heap.size = w.heap.size + 1) := by show _ = _; rw [hW, World.size_alloc]
  obtain ⟨B, hB⟩ : ∃ B, B = w.heap.size := ⟨_, rfl⟩
  rw [← hB] at hb
  have HBX : Hid (IprAt W B V x) := hb
  rw [← hC] at hW ⊢
  have HOX : Hid (w.heap.size = B) := hB.symm
  have HLX : Hid (Below w.heap.size w W) := bel
  have HWX : Hid (w.alloc (.cells CX 24) = W) := hW.symm
  clear hb hW hB hC bel
  obtain ⟨j, hj⟩ : ∃ j, j = i / 8 := ⟨_, rfl⟩
  obtain ⟨m, hm⟩ : ∃ m, m = i % 8 := ⟨_, rfl⟩
  have HJ : Hid (j = i / 8) := hj
  have HM : Hid (m = i % 8) := hm
  have hj16 : j < 16 := by omega
  have h0 := HBX.out.byte j hj16
  have HX8 : Hid (x j < 256) := hx j hj16
  have t1 : Int.tdiv (i : Int) 8 = (j : Int) := by rw [Int.tdiv_eq_ediv_of_nonneg (by omega)]; omega
  have t2 : Int.tmod (i : Int) 8 = (m : Int) := by rw [Int.tmod_eq_emod_of_nonneg (by omega)]; omega
  have l1 : (j : Int) < 16 := by omega
  have wj : IntKind.i64.wrap (j : Int) = (j : Int) := i64_s _ (by omega) (by omega)
  have wm : IntKind.i64.wrap (m : Int) = (m : Int) := i64_s _ (by omega) (by omega)
  have wx : IntKind.i64.wrap ((x j : Nat) : Int) = ((x j : Nat) : Int) := i64_s _ (by omega) (by have := HX8.out; omega)
  clear hj hm hi hx
  go_enter Tryd.func80, Tryd.ntmps80
  go_wp2_with (rw [HOX.out, HWX.out])
  have HM7 : Hid (m ≤ 7) := by have := HM.out; show m ≤ 7; omega
  go_loopw [5, 6] (fun cv ix wr => ∃ k c : Nat, m ≤ k ∧ k ≤ 7 ∧ cv = .int .i64 (c : Nat) ∧ ix = .int .i64 (k : Nat) ∧ Hid (c = x j / 2 ^ (k - m)) ∧ c < 256 ∧ W = wr) (fun _ ix _ => 7 - (intOf ix).toNat)
  case atStart => exact ⟨m, x j, Nat.le_refl _, HM7.out, rfl, rfl, by show _ = _; simp, HX8.out, rfl⟩
  case round =>
    obtain ⟨k, c, hk1, hk2, rfl, rfl, HC, hc, rfl⟩ := hrel
    have HK : Hid (m ≤ k ∧ k ≤ 7 ∧ c < 256) := ⟨hk1, hk2, hc⟩
    clear hk1 hk2 hc
    by_cases hlt : k < 7
    · have q1 : decide ((k : Int) < 7) = true := decide_eq_true (by omega)
      have l2 : (k : Int) < 7 := by omega
      have w1 : IntKind.i64.wrap ((k : Int) + 1) = (k : Int) + 1 := i64_s _ (by omega) (by omega)
      obtain ⟨d, hd⟩ : ∃ d, d = c / 2 := ⟨_, rfl⟩
      have HD : Hid (d = c / 2) := hd
      have t3 : Int.tdiv (c : Int) 2 = (d : Int) := by rw [Int.tdiv_eq_ediv_of_nonneg (by omega)]; omega
      have w2 : IntKind.i64.wrap (d : Int) = (d : Int) := i64_s _ (by omega) (by have := HK.out; omega)
      have HLT : Hid (k < 7) := hlt
      clear hlt hd
      go_wp2
      go_roundw
      case rel =>
        refine ⟨k + 1, d, by have := HK.out; omega, HLT.out, by simp, by simp, ?_, by have := HK.out; have := HD.out; omega, by first | rfl | trivial⟩
        show _ = _
        rw [HD.out, HC.out, show k + 1 - m = (k - m) + 1 by have := HK.out; omega, Nat.pow_succ, Nat.div_div_eq_div_mul]
      case measure => have := HLT.out; simp [intOf]; omega
    · have q1 : decide ((k : Int) < 7) = false := decide_eq_false (by omega)
      have l2 : ¬ (k : Int) < 7 := by omega
      obtain ⟨d, hd⟩ : ∃ d, d = c % 2 := ⟨_, rfl⟩
      have HD : Hid (d = c % 2) := hd
      have t3 : Int.tmod (c : Int) 2 = (d : Int) := by rw [Int.tmod_eq_emod_of_nonneg (by omega)]; omega
      have w2 : IntKind.i64.wrap (d : Int) = (d : Int) := i64_s _ (by omega) (by omega)
      have HR : Hid (btN x i = d) := by
        show _ = _
        unfold btN
        rw [← HJ.out, ← HM.out, HD.out, HC.out, show k = 7 by have := HK.out; omega]
      clear hlt hd
      go_wp2
      go_ret
      exact ⟨by rw [HR.out]; rfl, HLX.out⟩
end Go.Proofs.YtclpeepnngegaaaDoor
