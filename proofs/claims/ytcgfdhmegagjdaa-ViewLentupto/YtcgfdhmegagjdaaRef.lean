/-
  The document's own answer (weirref1): bits of bytes, places, parts, numbers.
-/
import Derived.Test.YtcgfdhmegagjdaaTotal
import Derived.Test.YtcgfdhmegagjdaaMath2
namespace Go.Proofs.Ytcgfdhmegagjdaa
open Go.RowKit

theorem halves (x k : Nat) : x / 2 ^ k / 2 = x / 2 ^ (k + 1) := by rw [Nat.div_div_eq_div_mul, Nat.pow_succ]

set_option maxHeartbeats 400000 in
theorem bit_any (ad : Option Addr) (len cap i : Nat) (bs : List Nat) (w : World) (hl : bs.length = len) (hb : Seg .u8 w ad (toI bs)) (h256 : ∀ x ∈ bs, x < 256) (hi : i < 8 * len) (h3 : len ≤ 1152921504606846975) :
    Calls Try.prog 59 #[.slice ad len cap, .int .i64 i] w fun e w' => e = .returned (.int .i64 ((M.bitB bs i : Nat) : Int)) ∧ w = w' := by
  rcases hb with hnil | ⟨b, off, rfl, hc⟩
  · exact absurd hnil (toI_ne bs (by omega))
  have hj : i / 8 < len := by omega
  have hcell := hc (i / 8) (by rw [toI_len]; omega)
  rw [toI_getD] at hcell
  obtain ⟨y, hy⟩ : ∃ y, y = bs.getD (i / 8) 0 := ⟨_, rfl⟩
  rw [← hy] at hcell
  have hy256 : y < 256 := by
    have hj2 : i / 8 < bs.length := by omega
    rw [hy]
    have := h256 bs[i / 8] (List.getElem_mem _)
    simpa [List.getD, hj2] using this
  have HY : Hid (y = bs.getD (i / 8) 0) := hy
  clear hc hy hl
  go_enter Try.func59, Try.ntmps59
  go_wp2
  go_loop [5, 6] (fun c k => ∃ j : Nat, i % 8 + j ≤ 7 ∧ k = .int .i64 ((i % 8 + j : Nat) : Int) ∧ c = .int .i64 ((y / 2 ^ j : Nat) : Int)) (fun _ k => 7 - (intOf k).toNat)
  case atStart => exact ⟨0, by omega, by go_num, by simp⟩
  case round =>
    obtain ⟨j, hj7, rfl, rfl⟩ := hrel
    have hh := halves y j
    have hle : y / 2 ^ j ≤ y := Nat.div_le_self _ _
    have HH : Hid (y / 2 ^ j / 2 = y / 2 ^ (j + 1)) := hh
    obtain ⟨z, hz⟩ : ∃ z, z = y / 2 ^ j := ⟨_, rfl⟩
    rw [← hz] at hle ⊢
    have HZ : Hid (z = y / 2 ^ j) := hz
    clear hz hh
    by_cases hlt : i % 8 + j < 7
    · go_wp2
      go_round
      case rel => exact ⟨j + 1, by omega, by go_num, by rw [← HH.out, ← HZ.out]; go_num⟩
      case measure => simp [intOf]; omega
    · go_wp2
      go_ret
      refine ⟨ret1 ?_, rfl⟩
      rw [M.bitB, ← HY.out, show 7 - i % 8 = j by omega, ← HZ.out]
      omega

theorem bit_int (ad : Option Addr) (len cap : Nat) (i : Int) (k : Nat) (bs : List Nat) (w : World) (hl : bs.length = len) (hb : Seg .u8 w ad (toI bs)) (h256 : ∀ x ∈ bs, x < 256) (hik : i = (k : Int)) (hi : k < 8 * len) (h3 : len ≤ 1152921504606846975) :
    Calls Try.prog 59 #[.slice ad len cap, .int .i64 i] w fun e w' => e = .returned (.int .i64 ((M.bitB bs k : Nat) : Int)) ∧ w = w' := by
  subst hik
  exact bit_any ad len cap k bs w hl hb h256 hi h3

set_option maxHeartbeats 400000 in
theorem there_any (ad : Option Addr) (len cap : Nat) (at' n : Int) (w : World) (h3 : len ≤ 9223372036854775807) (ha : at' ≤ 9223372036854775807) (hn0 : 0 ≤ n) :
    Calls Try.prog 54 #[.slice ad len cap, .int .i64 at', .int .i64 n] w fun e w' => e = .returned (.bool (decide (0 ≤ at' ∧ at' + n ≤ len))) ∧ w = w' := by
  by_cases h1 : 0 ≤ at'
  · by_cases h2 : at' ≤ len
    · by_cases h4 : n ≤ (len : Int) - at'
      · go_enter Try.func54, Try.ntmps54
        go_wp2
        go_ret
        refine ⟨congrArg (fun b => Ending.returned (.bool b)) ?_, rfl⟩
        simp; omega
      · have hd : decide (n ≤ (len : Int) - at') = false := by simpa using h4
        go_enter Try.func54, Try.ntmps54
        go_wp2
        go_ret
        refine ⟨congrArg (fun b => Ending.returned (.bool b)) ?_, rfl⟩
        simp; omega
    · have hd : decide (at' ≤ (len : Int)) = false := by simpa using h2
      go_enter Try.func54, Try.ntmps54
      go_wp2
      go_ret
      refine ⟨congrArg (fun b => Ending.returned (.bool b)) ?_, rfl⟩
      simp; omega
  · have hd : decide (0 ≤ at') = false := by simpa using h1
    go_enter Try.func54, Try.ntmps54
    go_wp2
    go_ret
    refine ⟨congrArg (fun b => Ending.returned (.bool b)) ?_, rfl⟩
    simp

set_option maxHeartbeats 400000 in
theorem part_any (ad : Option Addr) (len cap lo n : Nat) (bs : List Nat) (w : World) (hl : bs.length = len) (hb : Seg .u8 w ad (toI bs)) (hin : lo + n ≤ len) (h3 : len ≤ 140737488355328) :
    Calls Try.prog 62 #[.slice ad len cap, .int .i64 lo, .int .i64 ((lo : Int) + n)] w fun e w' => ∃ v, e = .returned v ∧
      w'.ownsRow w.heap.size 5 1 v n ((toI ((bs.drop lo).take n)).map (Value.int .u8)) ∧ Below w.heap.size w w' := by
  subst hl
  obtain ⟨i0, hi, hz0, hz1, hz2⟩ := info_parts Try.infoByte
  go_enter Try.func62, Try.ntmps62
  go_wp2
  go_loopw [7, 8] (fun l ix wr => ∃ k : Nat, k ≤ n ∧ ix = .int .i64 ((lo + k : Nat) : Int) ∧ wr.ownsRow w.heap.size 5 1 l k ((toI ((bs.drop lo).take k)).map (Value.int .u8)) ∧ Below w.heap.size w wr) (fun _ ix _ => lo + n - (intOf ix).toNat)
  case atStart => exact ⟨0, Nat.zero_le _, by go_num, World.ownsRow_nil _ _ _ _, Below.refl _ _⟩
  case round =>
    obtain ⟨k, hk, rfl, hown, hbel⟩ := hrel
    by_cases hlt : k < n
    · have hb1 := hb.old hbel
      rcases hb1 with hnil | ⟨b, off, rfl, hc⟩
      · exact absurd hnil (toI_ne bs (by omega))
      have hcell := hc (lo + k) (by rw [toI_len]; omega)
      rw [toI_getD] at hcell
      obtain ⟨y, hy⟩ : ∃ y, y = bs.getD (lo + k) 0 := ⟨_, rfl⟩
      rw [← hy] at hcell
      have hst : (toI ((bs.drop lo).take (k + 1))).map (Value.int .u8) = (toI ((bs.drop lo).take k)).map (Value.int .u8) ++ [.int .u8 (y : Int)] := by
        have hkl : k < (bs.drop lo).length := by simp; omega
        have hkl2 : lo + k < bs.length := by omega
        rw [List.take_succ_eq_append_getElem hkl]
        simp [toI, hy, List.getD, hkl2]
      have HS : Hid _ := hst
      clear hc hy hst
      go_wp2_with (first | (at_builtin; refine wpList_append_own _ rfl _ _ 22 rfl w.heap.size 5 i0 (.int .u8 0) 1 1 Try.underlying22 hi hz0 hz1 hz2 rfl (by decide) _ _ _ rfl (hown.alloc _) ⟨wr.heap.size, 0, none⟩ 1 1 [.int .u8 (y : Int)] rfl rfl ?c1 ?c2 ?c3 ?c4 ?c5 ?_))
      case c1 => exact cell_one_new _ _ _
      case c2 => intro u hu; simp at hu; subst hu; rfl
      case c3 => unfold maxLen; omega
      case c4 => omega
      case c5 => have := hbel.size; simp; omega
      intro v' w1 hown1 hgrow1 _
      have hbel1 : Below w.heap.size w w1 := (hbel.alloc hbel.size _).grown hgrow1 (by have := hbel.size; simp; omega) (fun j hj => (hown.lt j hj).1)
      rw [← HS.out] at hown1
      clear hgrow1 hown hbel
      go_wp2
      go_roundw
      case rel => exact ⟨k + 1, by omega, by go_num, hown1, hbel1⟩
      case measure => simp [intOf]; omega
    · obtain rfl : k = n := by omega
      go_wp2
      go_ret
      exact ⟨_, rfl, hown, hbel⟩

theorem u64_gath (v b : Nat) (hb : b < 2) (hv : v < 2 ^ 63) : IntKind.u64.wrap (IntKind.u64.wrap (2 * (v : Int)) + (b : Int)) = ((2 * v + b : Nat) : Int) := by
  rw [IntKind.wrap_u64, IntKind.wrap_u64]
  omega

set_option maxHeartbeats 400000 in
theorem refUint_ok (ad : Option Addr) (len cap at' n : Nat) (bs : List Nat) (w : World) (hl : bs.length = len) (hb : Seg .u8 w ad (toI bs)) (h256 : ∀ x ∈ bs, x < 256) (hn1 : 1 ≤ n) (hn8 : n ≤ 8) (hin : at' + n ≤ len) (h3 : len ≤ 140737488355328) :
    Calls Try.prog 56 #[.slice ad len cap, .int .i64 at', .int .i64 n] w fun e w' => e = .returned (.tuple #[.int .u64 ((M.numB ((bs.drop at').take n) : Nat) : Int), .int .i64 0]) ∧ w = w' := by
  obtain ⟨cs, hcs⟩ : ∃ cs, cs = (bs.drop at').take n := ⟨_, rfl⟩
  have hcl : cs.length = n := by rw [hcs]; simp; omega
  have hc256 : ∀ x ∈ cs, x < 256 := by rw [hcs]; exact fun x hx => h256 x (List.mem_of_mem_drop (List.mem_of_mem_take hx))
  have hbit : ∀ j, j < 8 * n → M.bitB bs (8 * at' + j) = M.bitB cs j := fun j hj => by rw [hcs]; exact M.bit_part bs at' n j hj
  rw [← hcs]
  have HC : Hid (cs.length = n) := hcl
  have HB : Hid (∀ j, j < 8 * n → M.bitB bs (8 * at' + j) = M.bitB cs j) := hbit
  have HLN : Hid (bs.length = len) := hl
  have hthere := there_any ad len cap at' n w (by omega) (by omega) (by omega)
  rw [show decide ((0 : Int) ≤ (at' : Int) ∧ (at' : Int) + (n : Int) ≤ (len : Int)) = true by simp; omega] at hthere
  have HTH : Hid _ := hthere
  clear hcs hcl hbit hl hthere
  go_enter Try.func56, Try.ntmps56
  go_wp2_with fail
  refine Calls.mono HTH.out ?_
  rintro e w' ⟨rfl, rfl⟩
  go_wp2
  go_loop [9, 10] (fun v ix => ∃ j : Nat, j ≤ 8 * n ∧ ix = .int .i64 ((8 * at' + j : Nat) : Int) ∧ v = .int .u64 ((M.gath (M.numB cs) (8 * cs.length) 0 j : Nat) : Int)) (fun _ ix => 8 * at' + 8 * n - (intOf ix).toNat)
  case atStart => exact ⟨0, Nat.zero_le _, by go_num, by simp [M.gath_zero]⟩
  case round =>
    obtain ⟨j, hj, rfl, rfl⟩ := hrel
    by_cases hlt : j < 8 * n
    · have hg := M.gath_succ cs hc256 0 j (by rw [HC.out]; omega)
      have hgl : M.gath (M.numB cs) (8 * cs.length) 0 j < 2 ^ 63 := Nat.lt_of_lt_of_le (M.gath_lt _ _ _ _) (Nat.pow_le_pow_right (by decide) (by omega))
      rw [Nat.zero_add] at hg
      obtain ⟨g, hgg⟩ : ∃ g, g = M.gath (M.numB cs) (8 * cs.length) 0 j := ⟨_, rfl⟩
      rw [← hgg] at hg hgl ⊢
      have HG : Hid _ := hg
      have HGL : Hid (g < 2 ^ 63) := hgl
      clear hg hgl hgg
      go_wp2_with fail
      refine (bit_int ad len cap _ (8 * at' + j) bs _ HLN.out hb h256 (by omega) (by omega) (by omega)).mono ?_
      rintro e w' ⟨rfl, rfl⟩
      rw [HB.out j hlt]
      have hb2 : M.bitB cs j < 2 := Nat.mod_lt _ (by decide)
      have hug := u64_gath g (M.bitB cs j) hb2 HGL.out
      rw [HG.out] at hug
      have HUG : Hid _ := hug
      clear hug
      go_wp2
      go_round
      case rel => exact ⟨j + 1, by omega, by go_num, by rw [← HUG.out]⟩
      case measure => simp [intOf]; omega
    · obtain rfl : j = 8 * n := by omega
      have hfull := M.gath_full cs hc256
      rw [HC.out] at hfull ⊢
      rw [hfull]
      clear hfull
      go_wp2
      go_ret2
      exact ⟨rfl, rfl⟩

set_option maxHeartbeats 400000 in
theorem refUint_arg (ad : Option Addr) (len cap : Nat) (at' n : Int) (w : World) (hbad : n < 1 ∨ 8 < n) :
    Calls Try.prog 56 #[.slice ad len cap, .int .i64 at', .int .i64 n] w fun e w' => e = .returned (.tuple #[.int .u64 0, .int .i64 1]) ∧ w = w' := by
  by_cases h1 : n < 1
  all_goals
    go_enter Try.func56, Try.ntmps56
    go_wp2
    go_ret2
    exact ⟨rfl, rfl⟩
set_option maxHeartbeats 400000 in
theorem refUint_out (ad : Option Addr) (len cap : Nat) (at' n : Int) (w : World) (hn1 : 1 ≤ n) (hn8 : n ≤ 8) (h3 : len ≤ 9223372036854775807) (ha : at' ≤ 9223372036854775807) (hout : at' < 0 ∨ (len : Int) < at' + n) :
    Calls Try.prog 56 #[.slice ad len cap, .int .i64 at', .int .i64 n] w fun e w' => e = .returned (.tuple #[.int .u64 0, .int .i64 10]) ∧ w = w' := by
  have hthere := there_any ad len cap at' n w h3 ha (by omega)
  rw [show decide ((0 : Int) ≤ at' ∧ at' + n ≤ (len : Int)) = false by simp; omega] at hthere
  have HTH : Hid _ := hthere
  clear hthere
  go_enter Try.func56, Try.ntmps56
  go_wp2_with fail
  refine Calls.mono HTH.out ?_
  rintro e w' ⟨rfl, rfl⟩
  go_wp2
  go_ret2
  exact ⟨rfl, rfl⟩
theorem refUint_total (ad : Option Addr) (len cap : Nat) (at' n : Int) (bs : List Nat) (w : World) (hl : bs.length = len) (hb : Seg .u8 w ad (toI bs)) (h256 : ∀ x ∈ bs, x < 256) (h3 : len ≤ 140737488355328) (ha : at' ≤ 9223372036854775807) :
    Calls Try.prog 56 #[.slice ad len cap, .int .i64 at', .int .i64 n] w fun e w' => e = .returned (.tuple #[.int .u64 (uV bs at' n), .int .i64 (uE len at' n)]) ∧ w = w' := by
  subst hl
  by_cases h1 : n < 1 ∨ 8 < n
  · have e1 : uE bs.length at' n = 1 := by simp [uE, h1]
    have e2 : uV bs at' n = 0 := by simp [uV, e1]
    rw [e1, e2]
    exact refUint_arg ad bs.length cap at' n w h1
  · by_cases ho : at' < 0 ∨ (bs.length : Int) < at' + n
    · have e1 : uE bs.length at' n = 10 := by simp [uE, h1, ho]
      have e2 : uV bs at' n = 0 := by simp [uV, e1]
      rw [e1, e2]
      exact refUint_out ad bs.length cap at' n w (by omega) (by omega) (by omega) ha ho
    · have e1 : uE bs.length at' n = 0 := by simp [uE, h1, ho]
      rw [uV, e1]
      simp only [if_true]
      obtain ⟨k, rfl⟩ : ∃ k : Nat, at' = (k : Int) := ⟨at'.toNat, by omega⟩
      obtain ⟨m, rfl⟩ : ∃ m : Nat, n = (m : Int) := ⟨n.toNat, by omega⟩
      exact refUint_ok ad bs.length cap k m bs w rfl hb h256 (by omega) (by omega) (by omega) h3

set_option maxHeartbeats 400000 in
theorem refWindow_total (ad : Option Addr) (len cap : Nat) (at' n : Int) (bs : List Nat) (w : World) (hl : bs.length = len) (hb : Seg .u8 w ad (toI bs)) (h3 : len ≤ 140737488355328) (ha : at' ≤ 9223372036854775807) :
    Calls Try.prog 57 #[.slice ad len cap, .int .i64 at', .int .i64 n] w fun e w' => ∃ v, e = .returned (.tuple #[v, .int .i64 (wE len at' n)]) ∧
      w'.ownsRow w.heap.size 5 1 v (wB bs at' n).length ((toI (wB bs at' n)).map (Value.int .u8)) ∧ Below w.heap.size w w' := by
  by_cases h1 : n < 0
  · have e1 : wE len at' n = 1 := by simp [wE, h1]
    have e2 : wB bs at' n = [] := by simp [wB, hl, e1]
    rw [e1, e2]
    clear e1 e2
    go_enter Try.func57, Try.ntmps57
    go_wp2
    go_ret2
    exact ⟨_, rfl, World.ownsRow_nil _ _ _ _, Below.refl _ _⟩
  · by_cases ho : at' < 0 ∨ (len : Int) < at' + n
    · have e1 : wE len at' n = 10 := by simp [wE, h1, ho]
      have e2 : wB bs at' n = [] := by simp [wB, hl, e1]
      rw [e1, e2]
      have hthere := there_any ad len cap at' n w (by omega) ha (by omega)
      rw [show decide ((0 : Int) ≤ at' ∧ at' + n ≤ (len : Int)) = false by simp; omega] at hthere
      have HTH : Hid _ := hthere
      clear hthere e1 e2
      go_enter Try.func57, Try.ntmps57
      go_wp2_with fail
      refine Calls.mono HTH.out ?_
      rintro e w' ⟨rfl, rfl⟩
      go_wp2
      go_ret2
      exact ⟨_, rfl, World.ownsRow_nil _ _ _ _, Below.refl _ _⟩
    · have e1 : wE len at' n = 0 := by simp [wE, h1, ho]
      obtain ⟨k, rfl⟩ : ∃ k : Nat, at' = (k : Int) := ⟨at'.toNat, by omega⟩
      obtain ⟨m, rfl⟩ : ∃ m : Nat, n = (m : Int) := ⟨n.toNat, by omega⟩
      have e2 : wB bs k m = (bs.drop k).take m := by simp [wB, hl, e1]
      have e3 : (wB bs k m).length = m := by rw [e2]; simp; omega
      rw [e1, e3, e2]
      have hthere := there_any ad len cap k m w (by omega) ha (by omega)
      rw [show decide ((0 : Int) ≤ (k : Int) ∧ (k : Int) + (m : Int) ≤ (len : Int)) = true by simp; omega] at hthere
      have HTH : Hid _ := hthere
      have hpart := part_any ad len cap k m bs w hl hb (by omega) h3
      have HP : Hid _ := hpart
      clear hthere hpart e1 e2 e3 hl
      go_enter Try.func57, Try.ntmps57
      go_wp2_with fail
      refine Calls.mono HTH.out ?_
      rintro e w' ⟨rfl, rfl⟩
      go_wp2_with fail
      refine Calls.mono HP.out ?_
      rintro e w1 ⟨v, rfl, hown, hbel⟩
      obtain ⟨va, vc, rfl⟩ := owns_shape hown
      go_wp2
      go_ret2
      exact ⟨_, rfl, hown, hbel⟩

/-- how many bits, or -1 -/
def rbN (ws : List Int) : Int := if okW ws then sumI ws else -1
set_option maxHeartbeats 400000 in
theorem bits_any (a : Option Addr) (cap : Nat) (ws : List Int) (w : World) (hseg : Seg .i64 w a ws) (hlen : ws.length ≤ 9223372036854775807) :
    Calls Try.prog 58 #[.slice a ws.length cap] w fun e w' => e = .returned (.int .i64 (rbN ws)) ∧ w = w' := by
  by_cases h64 : ws.length ≤ 64
  · go_enter Try.func58, Try.ntmps58
    go_wp2
    go_loop [3, 4] (fun bi i => ∃ k : Nat, k ≤ ws.length ∧ i = .int .i64 k ∧ bi = .int .i64 (sumI (ws.take k)) ∧ (∀ j, j < k → 1 ≤ ws.getD j 0 ∧ ws.getD j 0 ≤ 32) ∧ 0 ≤ sumI (ws.take k) ∧ sumI (ws.take k) ≤ 32 * k)
      (fun _ i => ws.length - (intOf i).toNat)
    case atStart => exact ⟨0, Nat.zero_le _, rfl, rfl, by intro j hj; omega, by simp [sumI], by simp [sumI]⟩
    case round =>
      obtain ⟨k, hk, rfl, rfl, hall, hs0, hs1⟩ := hrel
      by_cases hlt : k < ws.length
      · rcases hseg with hnil | ⟨b, off, rfl, hc⟩
        · simp [hnil] at hlt
        have hcell := hc k hlt
        obtain ⟨x, hx⟩ : ∃ x, x = ws.getD k 0 := ⟨_, rfl⟩
        have hss := sumI_take_succ ws k hlt
        rw [← hx] at hcell hss
        have HX : Hid (x = ws.getD k 0) := hx
        have HS : Hid (sumI (ws.take (k + 1)) = sumI (ws.take k) + x) := hss
        clear hx hss hc
        by_cases h1 : 1 ≤ x
        · by_cases h2 : x ≤ 32
          · go_wp2
            go_round
            case rel =>
              refine ⟨k + 1, by omega, by go_num, by rw [HS.out], ?_, by rw [HS.out]; omega, by rw [HS.out]; omega⟩
              intro j hj
              by_cases hjk : j = k
              · subst hjk; rw [← HX.out]; exact ⟨h1, h2⟩
              · exact hall j (by omega)
            case measure => simp [intOf]; omega
          · have hb : Hid (okW ws = false) := okW_bad ws k hlt (by rw [← HX.out]; omega)
            go_wp2
            go_ret
            exact ⟨ret1 (by simp [rbN, hb.out]), rfl⟩
        · have hb : Hid (okW ws = false) := okW_bad ws k hlt (by rw [← HX.out]; omega)
          go_wp2
          go_ret
          exact ⟨ret1 (by simp [rbN, hb.out]), rfl⟩
      · have hkl : k = ws.length := by omega
        subst hkl
        rw [List.take_length] at hs0 hs1
        by_cases h8 : sumI ws % 8 = 0
        · have hg : Hid (okW ws = true) := okW_good ws h64 hall h8
          have h8' : ((sumI ws).tmod 8 != 0) = false := by rw [Int.tmod_eq_emod_of_nonneg hs0]; simp [h8]
          go_wp2
          go_ret
          refine ⟨ret1 ?_, rfl⟩
          simp [rbN, hg.out]
        · have hb : Hid (okW ws = false) := okW_odd ws h8
          have h8' : ((sumI ws).tmod 8 != 0) = true := by rw [Int.tmod_eq_emod_of_nonneg hs0]; simp [h8]
          go_wp2
          go_ret
          exact ⟨ret1 (by simp [rbN, hb.out]), rfl⟩
  · have hb : Hid (okW ws = false) := okW_long ws h64
    go_enter Try.func58, Try.ntmps58
    go_wp2
    go_ret
    exact ⟨ret1 (by simp [rbN, hb.out]), rfl⟩
end Go.Proofs.Ytcgfdhmegagjdaa
