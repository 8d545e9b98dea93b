/-
  weirref4: a text's bytes; digit, worth, here, has, two, decimal.
-/
import Derived.Test.YtclpeepnngegaaaDoorRtA2
import Derived.Deep.CutBlock
import Derived.Deep.DeepCutAuto
namespace Go.Proofs.YtclpeepnngegaaaDoor
open Go.RowKit Go.Maps

/-- a text's byte -/
def sB (s : ByteArray) (i : Nat) : Nat := (s.data.toList.getD i 0).toNat
theorem sB_lt (s : ByteArray) (i : Nat) : sB s i < 256 := UInt8.toNat_lt _
theorem sB_get (s : ByteArray) (i : Nat) (h : i < s.size) : sB s i = (s[i]'h).toNat := by
  unfold sB
  congr 1
  have h2 : i < s.data.size := h
  rw [List.getD_eq_getElem?_getD, Array.getElem?_toList, Array.getElem?_eq_getElem h2]
  rfl
theorem wpList_sB {ops : Array Oper} {rest : List Oper} {o : Oper} {a : Act} {w : World} {Q : Exit → Act → World → Prop} (x y : Operand) (ho : o.op = .index 9 x y) (s : ByteArray) (p : Nat) (z : Int) (hx : a.eval x = .string s) (hy : a.eval y = .int .i64 z) (hz : z = (p : Int)) (hp : p < s.size) (hw : Region.wanted o (yielded ops a.tmps) = true)
    (h : wpList Tryd.prog ops Q rest (a.put o.dst (.int .u8 (sB s p : Nat))) w) : wpList Tryd.prog ops Q (o :: rest) a w := by
  refine wpList_step fun K hK => ?_
  rw [if_pos hw]
  have hrun : (execOp a.eval o).run Tryd.prog w = .ok (.value (.int .u8 (sB s p : Nat))) w := by
    obtain ⟨dst, op, type, pos, after, guard⟩ := o
    simp only at ho
    subst ho
    simp only [execOp, Sem.run_bind, hx, hy, hz]
    rw [run_index_string w 9 s .i64 (p : Int) Tryd.underlying9, dif_pos (by omega)]
    simp only [Result.andThen_ok, Int.toNat_natCast, sB_get s p hp]
    rfl
  unfold Oper.wp
  rw [hrun]
  exact hK _ _ h
def dgB (c : Nat) : Bool := decide (48 ≤ c) && decide (c ≤ 57)
set_option maxHeartbeats 1600000 in
set_option maxRecDepth 100000 in
theorem digit_any (c : Nat) (w : World) : Calls Tryd.prog 75 #[.int .u8 (c : Nat)] w fun r w' => r = .returned (.bool (dgB c)) ∧ w = w' := by
  go_enter Tryd.func75, Tryd.ntmps75
  by_cases h1 : 48 ≤ c
  · have q1 : decide ((48 : Int) ≤ (c : Int)) = true := decide_eq_true (by omega)
    have q0 : decide (48 ≤ c) = true := decide_eq_true h1
    go_wp2
    go_ret
    exact ⟨by simp [dgB, q0]; try omega, rfl⟩
  · have q1 : decide ((48 : Int) ≤ (c : Int)) = false := decide_eq_false (by omega)
    have q0 : decide (48 ≤ c) = false := decide_eq_false h1
    go_wp2
    go_ret
    exact ⟨by simp [dgB, q0], rfl⟩
/-- a hexadecimal digit's worth -/
def wth (c : Nat) : Int := if dgB c then (c : Int) - 48 else if decide (97 ≤ c) && decide (c ≤ 102) then (c : Int) - 97 + 10 else if decide (65 ≤ c) && decide (c ≤ 70) then (c : Int) - 65 + 10 else -1
theorem u8_s (a : Int) (h1 : 0 ≤ a) (h2 : a < 256) : IntKind.u8.wrap a = a := by
  have : IntKind.u8.wrap a = a % 256 := rfl
  rw [this]; omega
set_option maxHeartbeats 1600000 in
set_option maxRecDepth 100000 in
theorem worth_any (c : Nat) (w : World) (hc : c < 256) : Calls Tryd.prog 90 #[.int .u8 (c : Nat)] w fun r w' => r = .returned (.int .i64 (wth c)) ∧ w = w' := by
  obtain ⟨b, hb⟩ : ∃ b, dgB c = b := ⟨_, rfl⟩
  have HB : Hid (dgB c = b) := hb
  go_enter Tryd.func90, Tryd.ntmps90
  go_wp2_with fail
  refine (digit_any c w).mono ?_
  rintro e w1 ⟨rfl, rfl⟩
  rw [hb]
  clear hb
  cases b with
  | true =>
    have h1 : 48 ≤ c ∧ c ≤ 57 := by have := HB.out; simp [dgB] at this; exact this
    have w1 : IntKind.u8.wrap ((c : Int) - 48) = (c : Int) - 48 := u8_s _ (by omega) (by omega)
    have w2 : IntKind.i64.wrap ((c : Int) - 48) = (c : Int) - 48 := i64_s _ (by omega) (by omega)
    go_wp2
    go_ret
    exact ⟨by unfold wth; rw [HB.out]; rfl, rfl⟩
  | false =>
    by_cases h1 : 97 ≤ c ∧ c ≤ 102
    · have q1 : decide ((97 : Int) ≤ (c : Int)) = true := decide_eq_true (by omega)
      have q2 : decide ((c : Int) ≤ 102) = true := decide_eq_true (by omega)
      have w1 : IntKind.u8.wrap ((c : Int) - 97) = (c : Int) - 97 := u8_s _ (by omega) (by omega)
      have w2 : IntKind.i64.wrap ((c : Int) - 97) = (c : Int) - 97 := i64_s _ (by omega) (by omega)
      have w3 : IntKind.i64.wrap ((c : Int) - 97 + 10) = (c : Int) - 97 + 10 := i64_s _ (by omega) (by omega)
      have HR : Hid (wth c = (c : Int) - 97 + 10) := by show _ = _; unfold wth; rw [HB.out]; simp [h1]
      clear h1 hc
      go_wp2
      go_ret
      exact ⟨by rw [HR.out]; rfl, rfl⟩
    · have q3 : (decide ((97 : Int) ≤ (c : Int)) && decide ((c : Int) ≤ 102)) = false := by simp; omega
      have HN : Hid ((decide (97 ≤ c) && decide (c ≤ 102)) = false) := by show _ = false; simp; omega
      have hcut : (if decide ((97 : Int) ≤ (c : Int)) then decide ((c : Int) ≤ 102) else false) = false := by by_cases q : (97 : Int) ≤ (c : Int) <;> simp [q] <;> omega
      by_cases h2 : 65 ≤ c ∧ c ≤ 70
      · have q1 : decide ((65 : Int) ≤ (c : Int)) = true := decide_eq_true (by omega)
        have q2 : decide ((c : Int) ≤ 70) = true := decide_eq_true (by omega)
        have q4 : decide ((97 : Int) ≤ (c : Int)) = false := decide_eq_false (by omega)
        have w1 : IntKind.u8.wrap ((c : Int) - 65) = (c : Int) - 65 := u8_s _ (by omega) (by omega)
        have w2 : IntKind.i64.wrap ((c : Int) - 65) = (c : Int) - 65 := i64_s _ (by omega) (by omega)
        have w3 : IntKind.i64.wrap ((c : Int) - 65 + 10) = (c : Int) - 65 + 10 := i64_s _ (by omega) (by omega)
        have HR : Hid (wth c = (c : Int) - 65 + 10) := by show _ = _; unfold wth; rw [HB.out, HN.out]; simp [h2]
        clear h1 h2 hc q3 hcut
        go_wp2
        go_ret
        exact ⟨by rw [HR.out]; rfl, rfl⟩
      · have HR : Hid (wth c = -1) := by
          show _ = _; unfold wth; rw [HB.out, HN.out]
          have : (decide (65 ≤ c) && decide (c ≤ 70)) = false := by simp; omega
          rw [this]; rfl
        by_cases h3 : 97 ≤ c
        · have q1 : decide ((97 : Int) ≤ (c : Int)) = true := decide_eq_true (by omega)
          have q2 : decide ((c : Int) ≤ 102) = false := decide_eq_false (by omega)
          have q5 : decide ((65 : Int) ≤ (c : Int)) = true := decide_eq_true (by omega)
          have q6 : decide ((c : Int) ≤ 70) = false := decide_eq_false (by omega)
          clear h1 h2 h3 hc q3 hcut
          go_wp2
          go_ret
          exact ⟨by rw [HR.out]; rfl, rfl⟩
        · have q1 : decide ((97 : Int) ≤ (c : Int)) = false := decide_eq_false (by omega)
          by_cases h4 : 65 ≤ c
          · have q5 : decide ((65 : Int) ≤ (c : Int)) = true := decide_eq_true (by omega)
            have q6 : decide ((c : Int) ≤ 70) = false := decide_eq_false (by omega)
            clear h1 h2 h3 h4 hc q3 hcut
            go_wp2
            go_ret
            exact ⟨by rw [HR.out]; rfl, rfl⟩
          · have q5 : decide ((65 : Int) ≤ (c : Int)) = false := decide_eq_false (by omega)
            clear h1 h2 h3 h4 hc q3 hcut
            go_wp2
            go_ret
            exact ⟨by rw [HR.out]; rfl, rfl⟩
/-- the error of a text that does not go on at p, its place -/
def hrE (s : ByteArray) (p : Nat) : Nat × Nat := if s.size ≤ p then (42, s.size) else (41, p)
set_option maxHeartbeats 1600000 in
set_option maxRecDepth 100000 in
theorem here_any (s : ByteArray) (p : Nat) (w : World) : Calls Tryd.prog 76 #[.string s, .int .i64 (p : Nat)] w fun r w' => r = .returned (.tuple #[.int .i64 ((hrE s p).1 : Nat), .int .i64 ((hrE s p).2 : Nat)]) ∧ w = w' := by
  go_enter Tryd.func76, Tryd.ntmps76
  by_cases h1 : s.size ≤ p
  · have q1 : decide ((s.size : Int) ≤ (p : Int)) = true := decide_eq_true (by omega)
    have HR : Hid (hrE s p = (42, s.size)) := by show _ = _; unfold hrE; rw [if_pos h1]
    go_wp2
    refine bodyPost_ret (results_tmp2 rfl _ _ _) rfl ?_
    exact ⟨by rw [HR.out]; rfl, rfl⟩
  · have q1 : decide ((s.size : Int) ≤ (p : Int)) = false := decide_eq_false (by omega)
    have HR : Hid (hrE s p = (41, p)) := by show _ = _; unfold hrE; rw [if_neg h1]
    go_wp2
    refine bodyPost_ret (results_tmp2 rfl _ _ _) rfl ?_
    exact ⟨by rw [HR.out]; rfl, rfl⟩
def hsB (s : ByteArray) (c : Nat) : Bool := (List.range s.size).any fun i => sB s i == c
theorem hsB_true {s : ByteArray} {c k : Nat} (h : k < s.size) (e : sB s k = c) : hsB s c = true := by
  unfold hsB
  rw [List.any_eq_true]
  exact ⟨k, List.mem_range.2 h, by simp [e]⟩
theorem hsB_false {s : ByteArray} {c : Nat} (h : ∀ i, i < s.size → sB s i ≠ c) : hsB s c = false := by
  unfold hsB
  rw [List.any_eq_false]
  intro i hi
  simp [h i (List.mem_range.1 hi)]
set_option maxHeartbeats 1600000 in
set_option maxRecDepth 100000 in
theorem hasT_any (s : ByteArray) (c : Nat) (w : World) (hs : s.size ≤ 100000) : Calls Tryd.prog 83 #[.string s, .int .u8 (c : Nat)] w fun r w' => r = .returned (.bool (hsB s c)) ∧ w = w' := by
  have HS : Hid (s.size ≤ 100000) := hs
  clear hs
  go_enter Tryd.func83, Tryd.ntmps83
  go_wp2
  go_loopw [5] (fun ix wr => ∃ k : Nat, k ≤ s.size ∧ ix = .int .i64 k ∧ (∀ i, i < k → sB s i ≠ c) ∧ w = wr) (fun ix _ => s.size - (intOf ix).toNat)
  case atStart => exact ⟨0, by omega, rfl, fun i hi => by omega, rfl⟩
  case round =>
    obtain ⟨k, hk, rfl, hN, rfl⟩ := hrel
    have HN : Hid (∀ i, i < k → sB s i ≠ c) := hN
    clear hN
    by_cases hlt : k < s.size
    · have q1 : decide ((k : Int) < (s.size : Int)) = true := decide_eq_true (by omega)
      have q0 : decide (k < s.size) = true := decide_eq_true hlt
      have w1 : IntKind.i64.wrap ((k : Int) + 1) = (k : Int) + 1 := i64_s _ (by omega) (by have := HS.out; omega)
      by_cases he : sB s k = c
      · have qe : decide (((sB s k : Nat) : Int) = (c : Int)) = true := decide_eq_true (by omega)
        have qf : (((sB s k : Nat) : Int) == (c : Int)) = true := by simp [he]
        have HR : Hid (hsB s c = true) := hsB_true hlt he
        have HLT : Hid (k < s.size) := hlt
        clear he hlt hk
        go_wp2_with (refine wpList_sB (.tmp 12) (.tmp 13) rfl s k _ rfl rfl rfl HLT.out rfl ?_)
        go_ret
        exact ⟨by rw [HR.out]; rfl, rfl⟩
      · have qe : decide (((sB s k : Nat) : Int) = (c : Int)) = false := decide_eq_false (by omega)
        have qf : (((sB s k : Nat) : Int) == (c : Int)) = false := by simp; omega
        have HLT : Hid (k < s.size) := hlt
        have HE : Hid (sB s k ≠ c) := he
        clear he hlt hk
        go_wp2_with (refine wpList_sB (.tmp 12) (.tmp 13) rfl s k _ rfl rfl rfl HLT.out rfl ?_)
        go_roundw
        case rel => exact ⟨k + 1, HLT.out, by simp, fun i hi => if h : i = k then h ▸ HE.out else HN.out i (by omega), by first | rfl | trivial⟩
        case measure => have := HLT.out; simp [intOf]; omega
    · have q1 : decide ((k : Int) < (s.size : Int)) = false := decide_eq_false (by omega)
      have q0 : decide (k < s.size) = false := decide_eq_false hlt
      have HR : Hid (hsB s c = false) := hsB_false (fun i hi => HN.out i (by omega))
      clear hlt hk
      go_wp2
      go_ret
      exact ⟨by rw [HR.out]; rfl, rfl⟩
theorem beq58 (a : Nat) : (((a : Int)) == 58) = (a == 58) := by rw [Bool.eq_iff_iff]; simp; omega
def twB (s : ByteArray) (p : Nat) : Bool := decide (p + 1 < s.size) && sB s p == 58 && sB s (p + 1) == 58
set_option maxHeartbeats 1600000 in
set_option maxRecDepth 100000 in
theorem two_any (s : ByteArray) (p : Nat) (w : World) (hs : p ≤ 100000) : Calls Tryd.prog 86 #[.string s, .int .i64 (p : Nat)] w fun r w' => r = .returned (.bool (twB s p)) ∧ w = w' := by
  have w1 : IntKind.i64.wrap ((p : Int) + 1) = (p : Int) + 1 := i64_s _ (by omega) (by omega)
  clear hs
  go_enter Tryd.func86, Tryd.ntmps86
  by_cases h1 : p + 1 < s.size
  · have q1 : decide ((p : Int) + 1 < (s.size : Int)) = true := decide_eq_true (by omega)
    have H1 : Hid (p + 1 < s.size) := h1
    have H0 : Hid (p < s.size) := Nat.lt_of_succ_lt h1
    clear h1
    by_cases h2 : sB s p = 58
    · have q2 : (((sB s p : Nat) : Int) == 58) = true := by simp [h2]
      have q2' : decide (((sB s p : Nat) : Int) = 58) = true := decide_eq_true (by omega)
      have HR : Hid (twB s p = (sB s (p + 1) == 58)) := by show _ = _; unfold twB; rw [decide_eq_true H1.out, h2]; rfl
      have HE1 : Hid ((p : Int) + 1 = ((p + 1 : Nat) : Int)) := by show _ = _; omega
      clear h2
      go_wp2_with (first | (refine wpList_sB (.tmp 11) (.tmp 12) rfl s p _ rfl rfl rfl H0.out rfl ?_) | (refine wpList_sB (.tmp 17) (.tmp 19) rfl s (p + 1) _ rfl rfl HE1.out H1.out rfl ?_))
      go_ret
      exact ⟨by rw [HR.out, ← beq58]; rfl, rfl⟩
    · have q2 : (((sB s p : Nat) : Int) == 58) = false := by simp; omega
      have q2' : decide (((sB s p : Nat) : Int) = 58) = false := decide_eq_false (by omega)
      have HR : Hid (twB s p = false) := by show _ = _; unfold twB; simp [h2]
      clear h2
      go_wp2_with (first | (refine wpList_sB (.tmp 11) (.tmp 12) rfl s p _ rfl rfl rfl H0.out rfl ?_))
      go_ret
      exact ⟨by rw [HR.out]; rfl, rfl⟩
  · have q1 : decide ((p : Int) + 1 < (s.size : Int)) = false := decide_eq_false (by omega)
    have HR : Hid (twB s p = false) := by show _ = _; unfold twB; rw [decide_eq_false h1]; rfl
    clear h1
    go_wp2
    go_ret
    exact ⟨by rw [HR.out]; rfl, rfl⟩
end Go.Proofs.YtclpeepnngegaaaDoor
