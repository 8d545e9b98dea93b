/-
  isVersion, within, size, Check, pseudo of icmp.
-/
import Derived.Test.YtijipfciimcnpaaDoorI8Spec
import Derived.Test.YtijipfciimcnpaaDoorI8Ps3
import Derived.Test.YtijipfciimcnpaaDoorI8Bld
import Derived.Test.YtijipfciimcnpaaDoorMixH
namespace Go.Proofs.YtijipfciimcnpaaDoor
open Go.RowKit
open I8 (M8)

theorem icVer_any (v : Int) (w : World) : Calls Tryd.prog 46 #[.int .i64 v] w fun e w' => e = .returned (.bool (I8.isV v)) ∧ w = w' := by
  by_cases h4 : v = 4
  · subst h4
    go_enter Tryd.func46, Tryd.ntmps46
    go_wp2
    go_ret
    exact ⟨rfl, rfl⟩
  · have e4 : (v == 4) = false := by simpa using h4
    by_cases h6 : v = 6
    · subst h6
      go_enter Tryd.func46, Tryd.ntmps46
      go_wp2
      go_ret
      exact ⟨rfl, rfl⟩
    · have e6 : (v == 6) = false := by simpa using h6
      have e : I8.isV v = false := by simp [I8.isV]; omega
      go_enter Tryd.func46, Tryd.ntmps46
      go_wp2
      go_ret
      exact ⟨by rw [e]; rfl, rfl⟩
theorem icIn_any (v m : Int) (w : World) : Calls Tryd.prog 47 #[.int .i64 v, .int .i64 m] w fun e w' => e = .returned (.bool (I8.inB v m)) ∧ w = w' := by
  by_cases h1 : 0 ≤ v
  · go_enter Tryd.func47, Tryd.ntmps47
    go_wp2
    go_ret
    exact ⟨congrArg (fun b => Ending.returned (.bool b)) (by simp [I8.inB, h1]), rfl⟩
  · go_enter Tryd.func47, Tryd.ntmps47
    go_wp2
    go_ret
    exact ⟨congrArg (fun b => Ending.returned (.bool b)) (by simp [I8.inB]; omega), rfl⟩
/-- a message as a value -/
def mC (m : M8) (da : Option Addr) (n c : Nat) : Array Value := #[.int .i64 m.v, .int .i64 m.t, .int .i64 m.c, .int .i64 m.r, .slice da n c]
structure MOk (w : World) (m : M8) (da : Option Addr) (n c : Nat) : Prop where
  dl : m.d.length = n
  seg : Seg .u8 w da (toI m.d)
  d256 : ∀ x ∈ m.d, x < 256
  cap : n ≤ c
  top : c ≤ 9223372036854775807
  sm : n ≤ 1099511627776
theorem MOk.old {w w' : World} {m : M8} {da : Option Addr} {n c : Nat} (h : MOk w m da n c) (hb : Below w.heap.size w w') : MOk w' m da n c := { h with seg := h.seg.old hb }
theorem size_any (m : M8) (da : Option Addr) (n c : Nat) (w : World) (hn : n ≤ 1099511627776) :
    Calls Tryd.prog 48 #[.agg (mC m da n c)] w fun e w' => e = .returned (.int .i64 ((8 + n : Nat) : Int)) ∧ Below w.heap.size w w' := by
  have q1 : IntKind.i64.wrap (8 + (n : Int)) = 8 + (n : Int) := by rw [IntKind.wrap_i64]; omega
  unfold mC
  go_enter Tryd.func48, Tryd.ntmps48
  go_wp2
  go_ret
  exact ⟨by simp, (Below.refl _ _).alloc (Nat.le_refl _) _⟩
set_option maxHeartbeats 800000 in
theorem icCheck_any (m : M8) (da : Option Addr) (n c : Nat) (w : World) (hd : m.d.length = n) (hn : n ≤ 1099511627776) :
    Calls Tryd.prog 11 #[.agg (mC m da n c)] w fun e w' => e = .returned (.int .i64 ((I8.chk m : Nat) : Int)) ∧ Below w.heap.size w w' := by
  have bel : Below w.heap.size w (w.alloc (.cells (mC m da n c) 31)) := (Below.refl _ _).alloc (Nat.le_refl _) _
  have HQ : Hid (∀ W, Calls Tryd.prog 48 #[.agg (mC m da n c)] W fun e w' => e = .returned (.int .i64 ((8 + n : Nat) : Int)) ∧ Below W.heap.size W w') := fun W => size_any m da n c W hn
  have HD : Hid (m.d.length = n) := hd
  clear hd
  obtain ⟨v, t, cc, r, d⟩ := m
  unfold mC at bel HQ ⊢
  simp only at bel HQ HD ⊢
  cases hv : I8.isV v with
  | false =>
    have HE : Hid (I8.chk ⟨v, t, cc, r, d⟩ = 1) := by show _ = _; unfold I8.chk; rw [hv]; rfl
    go_enter Tryd.func11, Tryd.ntmps11
    go_wp2_with fail
    refine Calls.mono (icVer_any v _) ?_
    rintro e w1 ⟨rfl, rfl⟩
    go_wp2
    go_ret
    exact ⟨by rw [HE.out]; rfl, bel⟩
  | true =>
  cases h1 : I8.inB t 255 with
  | false =>
    have HE : Hid (I8.chk ⟨v, t, cc, r, d⟩ = 82) := by show _ = _; unfold I8.chk I8.okF; rw [hv, h1]; rfl
    go_enter Tryd.func11, Tryd.ntmps11
    go_wp2_with fail
    refine Calls.mono (icVer_any v _) ?_
    rintro e w1 ⟨rfl, rfl⟩
    go_wp2_with fail
    refine Calls.mono (icIn_any t 255 _) ?_
    rintro e w1 ⟨rfl, rfl⟩
    go_wp2
    go_ret
    exact ⟨by rw [HE.out]; rfl, bel⟩
  | true =>
  cases h2 : I8.inB cc 255 with
  | false =>
    have HE : Hid (I8.chk ⟨v, t, cc, r, d⟩ = 82) := by show _ = _; unfold I8.chk I8.okF; rw [hv, h1, h2]; rfl
    go_enter Tryd.func11, Tryd.ntmps11
    go_wp2_with fail
    refine Calls.mono (icVer_any v _) ?_
    rintro e w1 ⟨rfl, rfl⟩
    go_wp2_with fail
    refine Calls.mono (icIn_any t 255 _) ?_
    rintro e w1 ⟨rfl, rfl⟩
    go_wp2_with fail
    refine Calls.mono (icIn_any cc 255 _) ?_
    rintro e w1 ⟨rfl, rfl⟩
    go_wp2
    go_ret
    exact ⟨by rw [HE.out]; rfl, bel⟩
  | true =>
  cases h3 : I8.inB r 4294967295 with
  | false =>
    have HE : Hid (I8.chk ⟨v, t, cc, r, d⟩ = 82) := by show _ = _; unfold I8.chk I8.okF; rw [hv, h1, h2, h3]; rfl
    go_enter Tryd.func11, Tryd.ntmps11
    go_wp2_with fail
    refine Calls.mono (icVer_any v _) ?_
    rintro e w1 ⟨rfl, rfl⟩
    go_wp2_with fail
    refine Calls.mono (icIn_any t 255 _) ?_
    rintro e w1 ⟨rfl, rfl⟩
    go_wp2_with fail
    refine Calls.mono (icIn_any cc 255 _) ?_
    rintro e w1 ⟨rfl, rfl⟩
    go_wp2_with fail
    refine Calls.mono (icIn_any r 4294967295 _) ?_
    rintro e w1 ⟨rfl, rfl⟩
    go_wp2
    go_ret
    exact ⟨by rw [HE.out]; rfl, bel⟩
  | true =>
  have HE : Hid (I8.chk ⟨v, t, cc, r, d⟩ = if 65515 < 8 + n then 2 else 0) := by show _ = _; unfold I8.chk I8.okF; rw [hv, h1, h2, h3, ← HD.out]; rfl
  go_enter Tryd.func11, Tryd.ntmps11
  go_wp2_with fail
  refine Calls.mono (icVer_any v _) ?_
  rintro e w1 ⟨rfl, rfl⟩
  go_wp2_with fail
  refine Calls.mono (icIn_any t 255 _) ?_
  rintro e w1 ⟨rfl, rfl⟩
  go_wp2_with fail
  refine Calls.mono (icIn_any cc 255 _) ?_
  rintro e w1 ⟨rfl, rfl⟩
  go_wp2_with fail
  refine Calls.mono (icIn_any r 4294967295 _) ?_
  rintro e w1 ⟨rfl, rfl⟩
  go_wp2_with fail
  refine Calls.mono (HQ.out _) ?_
  rintro e w1 ⟨rfl, hb1⟩
  have HF : Hid (Below w.heap.size w w1) := bthen bel hb1
  clear hb1
  by_cases hz : 65515 < 8 + n
  · have hz' : (65515 : Int) < ((8 + n : Nat) : Int) := by omega
    rw [if_pos hz] at HE
    go_wp2
    go_ret
    exact ⟨by rw [HE.out]; rfl, HF.out⟩
  · have hz' : ¬ (65515 : Int) < ((8 + n : Nat) : Int) := by omega
    rw [if_neg hz] at HE
    go_wp2
    go_ret
    exact ⟨by rw [HE.out]; rfl, HF.out⟩
def six6 (V U : Int) : Bool := decide (V = 6 ∧ U = 6)
/-- what goes into the sum beside the message -/
def psB (v V U : Int) (x y : Nat → Nat) (n : Nat) : List Nat := if v = 6 then psL V U x y 58 n else []
def psX (v : Int) (V U : Int) : Nat := if v = 6 ∧ six6 V U = false then 20 else 0
theorem ps_six {V U : Int} {x y : Nat → Nat} {n : Nat} (h : six6 V U = true) (hn : n ≤ 65535) : psE V U x y 58 n = 0 ∧ psL V U x y 58 n = ipL x 16 ++ ipL y 16 ++ [0, 0, n / 256, n % 256, 0, 0, 0, 58] := by
  simp only [six6, decide_eq_true_eq] at h
  obtain ⟨rfl, rfl⟩ := h
  have h1 : psOk 6 6 x y = true := by simp [psOk, isAddr]
  have h2 : psIn 58 (n : Int) = true := by simp [psIn]; omega
  unfold psE psL
  rw [h1, h2]
  simp
theorem psB_even (v V U : Int) (x y : Nat → Nat) (n : Nat) (h : psX v V U = 0) (hn : n ≤ 65535) : (psB v V U x y n).length % 2 = 0 := by
  unfold psB
  split
  · rename_i hv
    unfold psX at h
    cases hs : six6 V U with
    | false => rw [if_pos ⟨hv, hs⟩] at h; cases h
    | true => rw [(ps_six hs hn).2]; simp [ipL]
  · rfl
theorem psB_256 (v V U : Int) (x y : Nat → Nat) (n : Nat) (h : psX v V U = 0) (hn : n ≤ 65535) (hx : ∀ i, i < 16 → x i < 256) (hy : ∀ i, i < 16 → y i < 256) : ∀ z ∈ psB v V U x y n, z < 256 := by
  unfold psB
  split
  · rename_i hv
    unfold psX at h
    cases hs : six6 V U with
    | false => rw [if_pos ⟨hv, hs⟩] at h; cases h
    | true =>
      rw [(ps_six hs hn).2]
      intro z hz
      simp only [ipL, List.mem_append, List.mem_map, List.mem_range, List.mem_cons, List.not_mem_nil, or_false] at hz
      rcases hz with (⟨i, hi, rfl⟩ | ⟨i, hi, rfl⟩) | hz
      · exact hx i hi
      · exact hy i hi
      · omega
  · intro z hz; cases hz
theorem psB_len (v V U : Int) (x y : Nat → Nat) (n : Nat) : (psB v V U x y n).length ≤ 40 := by
  unfold psB
  split
  · unfold psL
    split
    · split <;> simp [ipL]
    · simp
  · simp
set_option maxHeartbeats 800000 in
theorem icPseudo_any (v V U : Int) (x y : Nat → Nat) (n : Nat) (w : World) (hv : I8.isV v = true) (hn : n ≤ 65535) :
    Calls Tryd.prog 55 #[.int .i64 v, .agg (ipCells V x), .agg (ipCells U y), .int .i64 n] w fun e w' => ∃ p, e = .returned (.tuple #[p, .int .i64 ((psX v V U : Nat) : Int)]) ∧ Below w.heap.size w w' ∧ (psX v V U = 0 → OwnB w' w.heap.size p (psB v V U x y n).length (psB v V U x y n)) ∧ (psX v V U ≠ 0 → p = .slice none 0 0) := by
  have hx1 := boxed_new w V x 24
  have hy1 := boxed_new (w.alloc (.cells (ipCells V x) 24)) U y 24
  have hb1 : Below w.heap.size w ((w.alloc (.cells (ipCells V x) 24)).alloc (.cells (ipCells U y) 24)) := ((Below.refl _ _).alloc (Nat.le_refl _) _).alloc (by simp) _
  have hx2 := hx1.old ((Below.refl _ _).alloc (Nat.le_refl _) (.cells (ipCells U y) 24))
  clear hx1
  rw [World.size_alloc] at hy1
  have HPS : Hid (∀ W, Calls Tryd.prog 82 #[.agg (ipCells V x), .agg (ipCells U y), .int .i64 58, .int .i64 n] W fun e w' => ∃ v, e = .returned (.tuple #[v, .int .i64 (psE V U x y 58 n)]) ∧ OwnB w' W.heap.size v (psL V U x y 58 n).length (psL V U x y 58 n) ∧ ((psL V U x y 58 n).length = 0 → v = .slice none 0 0) ∧ Below W.heap.size W w') := fun W => pseudo_any V U x y 58 n W
  obtain ⟨A, hA⟩ : ∃ A, A = ipCells V x := ⟨_, rfl⟩
  obtain ⟨C, hC⟩ : ∃ C, C = ipCells U y := ⟨_, rfl⟩
  rw [← hA] at hx2 hy1 hb1 ⊢
  rw [← hC] at hx2 hy1 hb1 ⊢
  clear hA hC
  by_cases h4 : v = 4
  · subst h4
    go_enter Tryd.func55, Tryd.ntmps55
    go_wp2
    go_ret2
    exact ⟨_, rfl, hb1, fun _ => World.ownsRow_nil _ _ _ _, fun h => absurd rfl h⟩
  have h6 : v = 6 := by simp only [I8.isV, decide_eq_true_eq] at hv; omega
  subst h6
  clear h4 hv
  go_enter Tryd.func55, Tryd.ntmps55
  go_upto_region 1 with fail
  obtain ⟨W, hW⟩ : ∃ W, W = (w.alloc (.cells A 24)).alloc (.cells C 24) := ⟨_, rfl⟩
  rw [← hW] at hx2 hy1 hb1 ⊢
  clear hW
  obtain ⟨B, hB⟩ : ∃ B, B = w.heap.size := ⟨_, rfl⟩
  have HB : Hid (w.heap.size = B) := hB.symm
  rw [← hB] at hx2 hy1 ⊢
  clear hB
  have hvx := hx2.ver
  have hvy := hy1.ver
  by_cases k1 : V = 6
  case neg =>
    have e1 : (V != 6) = true := by simpa using k1
    have hs : six6 V U = false := by simp [six6, k1]
    have HE : Hid (psX 6 V U = 20) := by show _ = _; unfold psX; rw [if_pos ⟨rfl, hs⟩]
    go_wp2
    go_ret2
    exact ⟨_, (by rw [HE.out]; rfl), hb1, (fun h => by rw [HE.out] at h; cases h), (fun _ => rfl)⟩
  by_cases k2 : U = 6
  case neg =>
    have e1 : (V != 6) = false := by simp [k1]
    have e2 : (U != 6) = true := by simpa using k2
    have hs : six6 V U = false := by simp [six6, k2]
    have HE : Hid (psX 6 V U = 20) := by show _ = _; unfold psX; rw [if_pos ⟨rfl, hs⟩]
    go_wp2
    go_ret2
    exact ⟨_, (by rw [HE.out]; rfl), hb1, (fun h => by rw [HE.out] at h; cases h), (fun _ => rfl)⟩
  have hs : six6 V U = true := by simp [six6, k1, k2]
  have HE : Hid (psX 6 V U = 0) := by show _ = _; unfold psX; rw [if_neg (by rw [hs]; simp)]
  have HZ : Hid _ := (ps_six (x := x) (y := y) hs hn).1
  have e1 : (V != 6) = false := by simp [k1]
  have e2 : (U != 6) = false := by simp [k2]
  have HL : Hid (psB 6 V U x y n = psL V U x y 58 n) := by show _ = _; unfold psB; rw [if_pos rfl]
  clear k1 k2 hs
  go_wp2_with (first | (refine wpList_load_ip (.tmp 5) rfl B V x rfl hx2 rfl ?_) | (refine wpList_load_ip (.tmp 6) rfl (B + 1) U y rfl hy1 rfl ?_))
  refine Calls.mono (HPS.out _) ?_
  rintro e w1 ⟨p, rfl, ho, hn0, hb2⟩
  rw [HZ.out]
  have HF : Hid (Below w.heap.size w w1) := bthen hb1 hb2
  have HO : Hid (OwnB w1 w.heap.size p (psL V U x y 58 n).length (psL V U x y 58 n)) := owns_mono ho hb1.size
  clear ho hn0 hb2
  go_wp2
  go_ret2
  exact ⟨_, by rw [HE.out]; rfl, HF.out, fun _ => by rw [HL.out]; exact HO.out, fun h => absurd HE.out h⟩
end Go.Proofs.YtijipfciimcnpaaDoor
