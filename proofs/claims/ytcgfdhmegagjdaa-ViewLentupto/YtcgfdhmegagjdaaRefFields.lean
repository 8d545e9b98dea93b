/-
  The document's own answer (weirref1): Fields and power.
-/
import Derived.Test.YtcgfdhmegagjdaaRef
namespace Go.Proofs.Ytcgfdhmegagjdaa
open Go.RowKit

set_option maxHeartbeats 400000 in
theorem power_any (n : Nat) (w : World) (hn : n ≤ 40) : Calls Try.prog 60 #[.int .i64 n] w fun e w' => e = .returned (.int .i64 ((2 ^ n : Nat) : Int)) ∧ w = w' := by
  go_enter Try.func60, Try.ntmps60
  go_wp2
  go_loop [3, 4] (fun p i => ∃ k : Nat, k ≤ n ∧ i = .int .i64 k ∧ p = .int .i64 ((2 ^ k : Nat) : Int)) (fun _ i => n - (intOf i).toNat)
  case atStart => exact ⟨0, Nat.zero_le _, rfl, by simp⟩
  case round =>
    obtain ⟨k, hk, rfl, rfl⟩ := hrel
    have hp : (2 : Nat) ^ k ≤ 2 ^ 40 := Nat.pow_le_pow_right (by decide) (by omega)
    have hs : (2 : Nat) ^ (k + 1) = 2 * 2 ^ k := by rw [Nat.pow_succ, Nat.mul_comm]
    have HS : Hid _ := hs
    clear hs
    by_cases hlt : k < n
    · obtain ⟨z, hz⟩ : ∃ z, z = 2 ^ k := ⟨_, rfl⟩
      rw [← hz] at hp ⊢
      have HZ : Hid (z = 2 ^ k) := hz
      clear hz
      have hp2 : z ≤ 1099511627776 := hp
      clear hp
      go_wp2
      go_round
      case rel => exact ⟨k + 1, by omega, by go_num, by rw [HS.out, ← HZ.out]; go_num⟩
      case measure => simp [intOf]; omega
    · obtain rfl : k = n := by omega
      go_wp2
      go_ret
      exact ⟨rfl, rfl⟩

set_option maxRecDepth 100000 in
set_option maxHeartbeats 1000000 in
theorem refFields_ok (ad ad2 : Option Addr) (len cap cap2 at' n : Nat) (bs ws : List Nat) (w : World) (hl : bs.length = len) (hb : Seg .u8 w ad (toI bs)) (hw : Seg .i64 w ad2 (toI ws))
    (h256 : ∀ x ∈ bs, x < 256) (h64 : ws.length ≤ 64) (hws : ∀ x ∈ ws, 1 ≤ x ∧ x ≤ 32) (htot : M.tot ws = 8 * n) (hin : at' + n ≤ len) (h3 : len ≤ 140737488355328) :
    Calls Try.prog 50 #[.slice ad len cap, .int .i64 at', .slice ad2 ws.length cap2] w fun e w' => ∃ v, e = .returned (.tuple #[v, .int .i64 ((at' : Int) + n), .int .i64 0]) ∧
      w'.ownsRow w.heap.size 3 1 v ws.length ((toI (M.fieldsN (M.tot ws) (M.numB ((bs.drop at').take n)) ws)).map (Value.int .i64)) ∧ Below w.heap.size w w' := by
  obtain ⟨cs, hcs⟩ : ∃ cs, cs = (bs.drop at').take n := ⟨_, rfl⟩
  have hcl : cs.length = n := by rw [hcs]; simp; omega
  have hc256 : ∀ x ∈ cs, x < 256 := by rw [hcs]; exact fun x hx => h256 x (List.mem_of_mem_drop (List.mem_of_mem_take hx))
  have hbit : ∀ j, j < 8 * n → M.bitB bs (8 * at' + j) = M.bitB cs j := fun j hj => by rw [hcs]; exact M.bit_part bs at' n j hj
  rw [← hcs]
  have hok : okW (toI ws) = true := okW_mk ws h64 hws (by omega)
  have hbits := bits_any ad2 cap2 (toI ws) w hw (by rw [toI_len]; omega)
  rw [toI_len, show rbN (toI ws) = ((8 * n : Nat) : Int) by simp only [rbN, hok, if_true, sumI_toI]; omega] at hbits
  have hthere := there_any ad len cap at' n w (by omega) (by omega) (by omega)
  rw [show decide ((0 : Int) ≤ (at' : Int) ∧ (at' : Int) + (n : Int) ≤ (len : Int)) = true by simp; omega] at hthere
  have hnl : n ≤ 256 := by have := M.tot_le ws 32 (fun x hx => (hws x hx).2); omega
  have HC : Hid (cs.length = n) := hcl
  have HB : Hid (∀ j, j < 8 * n → M.bitB bs (8 * at' + j) = M.bitB cs j) := hbit
  have HLN : Hid (bs.length = len) := hl
  have HT : Hid (M.tot ws = 8 * n) := htot
  have HTH : Hid _ := hthere
  have HBT : Hid _ := hbits
  clear hcs hcl hbit hl hthere hbits htot hok
  obtain ⟨i0, hi, hz0, hz1, hz2⟩ := info_parts Try.infoInt
  go_enter Try.func50, Try.ntmps50
  go_wp2_with fail
  refine Calls.mono HBT.out ?_
  rintro e w' ⟨rfl, rfl⟩
  go_wp2_with fail
  refine Calls.mono HTH.out ?_
  rintro e w' ⟨rfl, rfl⟩
  go_wp2
  go_loopw [11, 12, 13] (fun l p ix wr => ∃ k s : Nat, k ≤ ws.length ∧ ix = .int .i64 k ∧ p = .int .i64 ((8 * at' + s : Nat) : Int) ∧ Hid (s = M.tot (ws.take k)) ∧ s ≤ 8 * n ∧
      wr.ownsRow w.heap.size 3 1 l k ((toI ((M.fieldsN (M.tot ws) (M.numB cs) ws).take k)).map (Value.int .i64)) ∧ Below w.heap.size w wr) (fun _ _ ix _ => ws.length - (intOf ix).toNat)
  case atStart => exact ⟨0, 0, Nat.zero_le _, rfl, by go_num, rfl, by omega, World.ownsRow_nil _ _ _ _, Below.refl _ _⟩
  case round =>
    obtain ⟨k, s, hk, rfl, rfl, HS, hs8, hown, hbel⟩ := hrel
    by_cases hlt : k < ws.length
    · have hw1 := hw.old hbel
      have hb1 := hb.old hbel
      rcases hw1 with hnil | ⟨wb, woff, rfl, hwc⟩
      · exact absurd hnil (toI_ne ws (by omega))
      have hcw : wr.cell? ⟨wb, woff + k, none⟩ = some (.int .i64 ((ws[k] : Nat) : Int)) := by
        have := hwc k (by rw [toI_len]; exact hlt)
        rw [toI_getD] at this
        simpa [List.getD, hlt] using this
      obtain ⟨x, hx⟩ : ∃ x, x = ws[k] := ⟨_, rfl⟩
      rw [← hx] at hcw
      have hx1 : 1 ≤ x ∧ x ≤ 32 := by rw [hx]; exact hws _ (List.getElem_mem _)
      obtain ⟨hxl, hxu⟩ := hx1
      have HX : Hid (x = ws[k]) := hx
      have hsx : s + x ≤ 8 * n := by
        have e3 := M.tot_take_succ ws k hlt
        have e4 := M.tot_take_le ws (k + 1)
        have e5 := HS.out
        have e6 := HT.out
        omega
      clear hwc hx
      go_wp2
      go_loop [12, 14, 15] (fun p v j => ∃ t : Nat, t ≤ x ∧ j = .int .i64 t ∧ p = .int .i64 ((8 * at' + s + t : Nat) : Int) ∧ v = .int .i64 ((M.gath (M.numB cs) (8 * cs.length) s t : Nat) : Int)) (fun _ _ j => x - (intOf j).toNat)
      case atStart => exact ⟨0, Nat.zero_le _, rfl, by go_num, by simp [M.gath_zero]⟩
      case round =>
        obtain ⟨t, ht, rfl, rfl, rfl⟩ := hrel
        by_cases htx : t < x
        · have hg := M.gath_succ cs hc256 s t (by rw [HC.out]; omega)
          have hgl : M.gath (M.numB cs) (8 * cs.length) s t < 2 ^ 32 := Nat.lt_of_lt_of_le (M.gath_lt _ _ _ _) (Nat.pow_le_pow_right (by decide) (by omega))
          obtain ⟨g, hgg⟩ : ∃ g, g = M.gath (M.numB cs) (8 * cs.length) s t := ⟨_, rfl⟩
          rw [← hgg] at hg hgl ⊢
          have HG : Hid _ := hg
          have hgl2 : g ≤ 4294967296 := by omega
          clear hg hgg hgl
          go_wp2_with fail
          refine (bit_int ad len cap _ (8 * at' + (s + t)) bs _ HLN.out hb1 h256 (by omega) (by omega) (by omega)).mono ?_
          rintro e w' ⟨rfl, rfl⟩
          rw [HB.out (s + t) (by omega)]
          have hb2 : M.bitB cs (s + t) < 2 := Nat.mod_lt _ (by decide)
          obtain ⟨y, hy⟩ : ∃ y, y = M.bitB cs (s + t) := ⟨_, rfl⟩
          rw [← hy] at hb2 ⊢
          have HY : Hid (y = M.bitB cs (s + t)) := hy
          clear hy
          go_wp2
          go_round
          case rel => exact ⟨t + 1, by omega, by go_num, by go_num, by rw [← HG.out, ← HY.out]; go_num⟩
          case measure => simp [intOf]; omega
        · obtain rfl : t = x := by omega
          have hfl : k < (M.fieldsN (M.tot ws) (M.numB cs) ws).length := by rw [M.length_fieldsN]; exact hlt
          have hgf : M.gath (M.numB cs) (8 * cs.length) s t = (M.fieldsN (M.tot ws) (M.numB cs) ws)[k] := by
            have := M.gath_field (M.numB cs) ws k hlt
            rw [← HX.out, ← HS.out, HT.out, ← HC.out] at this
            rw [this]
            congr 1
            rw [HT.out, HC.out]
          have hst : (toI ((M.fieldsN (M.tot ws) (M.numB cs) ws).take (k + 1))).map (Value.int .i64) = (toI ((M.fieldsN (M.tot ws) (M.numB cs) ws).take k)).map (Value.int .i64) ++ [.int .i64 ((M.gath (M.numB cs) (8 * cs.length) s t : Nat) : Int)] := by
            rw [List.take_succ_eq_append_getElem hfl, hgf]
            unfold toI
            rw [List.map_append, List.map_append]
            rfl
          obtain ⟨g, hgg⟩ : ∃ g, g = M.gath (M.numB cs) (8 * cs.length) s t := ⟨_, rfl⟩
          rw [← hgg] at hst ⊢
          have HST : Hid _ := hst
          have hnx : Hid (s + t = M.tot (ws.take (k + 1))) := by
            show s + t = _
            rw [M.tot_take_succ ws k hlt, ← HX.out, ← HS.out]
          clear hst hgg hgf
          go_wp2_with (first | (at_builtin; refine wpList_append_own _ rfl (.tmp 51) (.tmp 53) 23 rfl w.heap.size 3 i0 (.int .i64 0) 1 8 Try.underlying23 hi hz0 hz1 hz2 rfl (by decide) _ _ _ rfl (hown.alloc _) ⟨wr.heap.size, 0, none⟩ 1 1 [.int .i64 (g : Int)] rfl rfl ?c1 ?c2 ?c3 ?c4 ?c5 ?_))
          case c2 => first | rfl | (intro u hu; simp at hu; subst hu; rfl)
          case c3 => unfold maxLen; omega
          case c4 => omega
          case c5 => have := hbel.size; simp; omega
          intro v' w1 hown1 hgrow1 _
          have hbel1 : Below w.heap.size w w1 := (hbel.alloc hbel.size _).grown hgrow1 (by have := hbel.size; simp; omega) (fun j hj => (hown.lt j hj).1)
          rw [← HST.out] at hown1
          clear hgrow1 hown hbel
          go_wp2
          go_roundw
          case rel => exact ⟨k + 1, s + t, by omega, by go_num, by go_num, hnx, hsx, hown1, hbel1⟩
          case measure => simp [intOf]; omega
    · obtain rfl : k = ws.length := by omega
      rw [List.take_of_length_le (by rw [M.length_fieldsN]; exact Nat.le_refl _)] at hown
      go_wp2
      go_ret3
      exact ⟨_, rfl, hown, hbel⟩

set_option maxHeartbeats 400000 in
theorem refFields_total (ad ad2 : Option Addr) (len cap len2 cap2 : Nat) (at' : Int) (bs : List Nat) (ws : List Int) (w : World) (hl : bs.length = len) (hl2 : ws.length = len2) (hb : Seg .u8 w ad (toI bs)) (hw : Seg .i64 w ad2 ws) (h256 : ∀ x ∈ bs, x < 256)
    (h3 : len ≤ 140737488355328) (ha : at' ≤ 9223372036854775807) (hw2 : len2 ≤ 9223372036854775807) :
    Calls Try.prog 50 #[.slice ad len cap, .int .i64 at', .slice ad2 len2 cap2] w fun e w' => ∃ v, e = .returned (.tuple #[v, .int .i64 (fP len at' ws), .int .i64 (fE len at' ws)]) ∧
      w'.ownsRow w.heap.size 3 1 v (fV bs at' ws).length ((toI (fV bs at' ws)).map (Value.int .i64)) ∧ Below w.heap.size w w' := by
  subst hl hl2
  have hbits := bits_any ad2 cap2 ws w hw hw2
  by_cases hok : okW ws = true
  · by_cases ho : at' < 0 ∨ (bs.length : Int) < at' + sumI ws / 8
    · have e1 : fE bs.length at' ws = 10 := by simp [fE, hok, ho]
      have e2 : fV bs at' ws = [] := by simp [fV, e1]
      have e3 : fP bs.length at' ws = 0 := by simp [fP, e1]
      obtain ⟨wn, rfl, h64, hws, h8⟩ := okW_nat ws hok
      obtain ⟨m, hm⟩ : ∃ m, M.tot wn = 8 * m := ⟨M.tot wn / 8, by omega⟩
      have hml : m ≤ 256 := by have := M.tot_le wn 32 (fun x hx => (hws x hx).2); omega
      have es : sumI (toI wn) / 8 = (m : Int) := by rw [sumI_toI]; omega
      rw [es] at ho
      rw [show rbN (toI wn) = ((8 * m : Nat) : Int) by simp only [rbN, hok, if_true, sumI_toI]; omega] at hbits
      have hthere := there_any ad bs.length cap at' m w (by omega) ha (by omega)
      rw [show decide ((0 : Int) ≤ at' ∧ at' + (m : Int) ≤ (bs.length : Int)) = false by simp; omega] at hthere
      have HTH : Hid _ := hthere
      have HBT : Hid _ := hbits
      rw [e1, e2, e3]
      clear hthere hbits e1 e2 e3 hok es ho hm h8
      go_enter Try.func50, Try.ntmps50
      go_wp2_with fail
      refine Calls.mono HBT.out ?_
      rintro e w' ⟨rfl, rfl⟩
      go_wp2_with fail
      refine Calls.mono HTH.out ?_
      rintro e w' ⟨rfl, rfl⟩
      go_wp2
      go_ret3
      exact ⟨_, rfl, World.ownsRow_nil _ _ _ _, Below.refl _ _⟩
    · have e1 : fE bs.length at' ws = 0 := by simp [fE, hok, ho]
      obtain ⟨wn, rfl, h64, hws, h8⟩ := okW_nat ws hok
      obtain ⟨k, rfl⟩ : ∃ k : Nat, at' = (k : Int) := ⟨at'.toNat, by
        rw [sumI_toI] at ho
        omega⟩
      obtain ⟨m, hm⟩ : ∃ m, M.tot wn = 8 * m := ⟨M.tot wn / 8, by omega⟩
      have es : sumI (toI wn) / 8 = (m : Int) := by rw [sumI_toI]; omega
      rw [es] at ho
      have e2 : fV bs k (toI wn) = M.fieldsN (M.tot wn) (M.numB ((bs.drop k).take m)) wn := by simp only [fV, e1, if_true, es, toNat_toI, Int.toNat_natCast]
      have e3 : fP bs.length k (toI wn) = (k : Int) + m := by simp only [fP, e1, if_true, es]
      rw [e1, e2, e3, toI_len]
      refine (refFields_ok ad ad2 bs.length cap cap2 k m bs wn w rfl hb hw h256 h64 hws hm (by omega) h3).mono ?_
      rintro e w' ⟨v, rfl, hown, hb'⟩
      refine ⟨v, rfl, ?_, hb'⟩
      rw [M.length_fieldsN]
      exact hown
  · have hbad : okW ws = false := by simpa using hok
    have e1 : fE bs.length at' ws = 11 := by simp [fE, hbad]
    have e2 : fV bs at' ws = [] := by simp [fV, e1]
    have e3 : fP bs.length at' ws = 0 := by simp [fP, e1]
    rw [show rbN ws = -1 by simp [rbN, hbad]] at hbits
    have HBT : Hid _ := hbits
    rw [e1, e2, e3]
    clear hbits e1 e2 e3 hok hbad
    go_enter Try.func50, Try.ntmps50
    go_wp2_with fail
    refine Calls.mono HBT.out ?_
    rintro e w' ⟨rfl, rfl⟩
    go_wp2
    go_ret3
    exact ⟨_, rfl, World.ownsRow_nil _ _ _ _, Below.refl _ _⟩
end Go.Proofs.Ytcgfdhmegagjdaa
