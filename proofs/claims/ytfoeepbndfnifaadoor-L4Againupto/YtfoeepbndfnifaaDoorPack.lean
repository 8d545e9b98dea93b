/-
  view.Pack: what it answers: the widths may not be; unlike many values; a value that its width cannot hold; the bytes.
-/
import Derived.Test.YtfoeepbndfnifaaDoorFields
namespace Go.Proofs.YtfoeepbndfnifaaDoor
open Go.RowKit

set_option maxHeartbeats 400000 in
theorem pack_widths (ad ad2 : Option Addr) (cap len2 cap2 : Nat) (ws : List Int) (w : World) (hw : Seg .i64 w ad ws) (hlen : ws.length ≤ 9223372036854775807) (hbad : okW ws = false) :
    Calls Tryd.prog 44 #[.slice ad ws.length cap, .slice ad2 len2 cap2] w fun e w' => e = .returned (.tuple #[.slice none 0 0, .int .i64 11]) ∧ w' = w := by
  have hN : boN ws = 0 := by simp [boN, hbad]
  have hE : boE ws = 11 := by simp [boE, hbad]
  go_enter Tryd.func44, Tryd.ntmps44
  go_wp2_with fail
  refine (bytesOf_any ad cap ws _ hw hlen).mono ?_
  rintro e w' ⟨rfl, rfl⟩
  rw [hN, hE]
  clear hN hE
  go_wp2
  go_ret2
  exact ⟨rfl, rfl⟩

set_option maxHeartbeats 400000 in
theorem pack_arg (ad ad2 : Option Addr) (cap len2 cap2 : Nat) (ws : List Int) (w : World) (hw : Seg .i64 w ad ws) (hlen : ws.length ≤ 9223372036854775807) (hok : okW ws = true) (hne : len2 ≠ ws.length) :
    Calls Tryd.prog 44 #[.slice ad ws.length cap, .slice ad2 len2 cap2] w fun e w' => e = .returned (.tuple #[.slice none 0 0, .int .i64 1]) ∧ w' = w := by
  have hE : boE ws = 0 := by simp [boE, hok]
  have h1 : ((len2 : Int) != (ws.length : Int)) = true := by rw [bne_iff_ne]; omega
  go_enter Tryd.func44, Tryd.ntmps44
  go_wp2_with fail
  refine (bytesOf_any ad cap ws _ hw hlen).mono ?_
  rintro e w' ⟨rfl, rfl⟩
  rw [hE]
  clear hE
  go_wp2
  go_ret2
  exact ⟨rfl, rfl⟩

/-- the value behind k fields -/
def vOf (ws : List Nat) (vs : List Int) (k : Nat) : Nat := M.packN 0 (ws.take k) ((vs.map Int.toNat).take k)
def heldP (V : Nat) : Int := ((V % 2 ^ 64 : Nat) : Int)
def fitI (ws : List Nat) (vs : List Int) (k : Nat) : Prop := ∀ j, j < k → 0 ≤ vs.getD j 0 ∧ vs.getD j 0 < 2 ^ (ws.getD j 0)
def bytesV (n V : Nat) : List Value := (M.bytesN n V).map (fun x : Nat => Value.int .u8 (x : Int))

theorem packN_snoc (a : Nat) (ws vs : List Nat) (h : ws.length = vs.length) (x v : Nat) : M.packN a (ws ++ [x]) (vs ++ [v]) = M.packN a ws vs * 2 ^ x + v := by
  induction ws generalizing a vs with
  | nil =>
    cases vs with
    | nil => rfl
    | cons v vs => simp at h
  | cons w ws ih =>
    cases vs with
    | nil => simp at h
    | cons v vs => exact ih _ vs (by simpa using h)
theorem vOf_succ (ws : List Nat) (vs : List Int) (k x : Nat) (y : Int) (hlt : k < ws.length) (hX : x = ws[k]) (hY : y = vs.getD k 0) (hV : vs.length = ws.length) :
    vOf ws vs (k + 1) = vOf ws vs k * 2 ^ x + y.toNat := by
  have hl : k < (vs.map Int.toNat).length := by simp; omega
  unfold vOf
  rw [List.take_succ_eq_append_getElem hlt, List.take_succ_eq_append_getElem hl, packN_snoc _ _ _ (by simp; omega), ← hX]
  congr 1
  rw [hY, List.getElem_map, List.getD, List.getElem?_eq_getElem (by omega)]
  rfl
theorem held_pack (ws : List Nat) (vs : List Int) (k x : Nat) (y h : Int) (hlt : k < ws.length) (hx : x ≤ 32) (hy0 : 0 ≤ y) (hy : y < 2 ^ x) (hX : x = ws[k]) (hY : y = vs.getD k 0) (hV : vs.length = ws.length) (hh : h = heldP (vOf ws vs k)) :
    bits .or .u64 (IntKind.u64.wrap (h * 2 ^ x)) (IntKind.u64.wrap y) = heldP (vOf ws vs (k + 1)) := by
  rw [vOf_succ ws vs k x y hlt hX hY hV, hh, heldP, heldP]
  generalize vOf ws vs k = V
  obtain ⟨v, rfl⟩ := Int.eq_ofNat_of_zero_le hy0
  rw [Int.toNat_natCast]
  have ep : ((2 : Int) ^ x) = ((2 ^ x : Nat) : Int) := by simp
  rw [ep] at hy ⊢
  have hv : v < 2 ^ x := by omega
  have hp : (2 : Nat) ^ x ≤ 2 ^ 32 := Nat.pow_le_pow_right (by decide) hx
  have e64 : (2 : Nat) ^ 64 = 2 ^ x * 2 ^ (64 - x) := by rw [← Nat.pow_add]; congr 1; omega
  have ew : IntKind.u64.wrap (v : Int) = (v : Int) := by rw [IntKind.wrap_u64]; omega
  have es : IntKind.u64.wrap (((V % 2 ^ 64 : Nat) : Int) * ((2 ^ x : Nat) : Int)) = ((2 ^ x * (V % 2 ^ (64 - x)) : Nat) : Int) := by
    rw [IntKind.wrap_u64, ← Int.natCast_mul]
    have : V % 2 ^ 64 * 2 ^ x % 18446744073709551616 = 2 ^ x * (V % 2 ^ (64 - x)) := by
      rw [show (18446744073709551616 : Nat) = 2 ^ x * 2 ^ (64 - x) by rw [← e64], Nat.mul_comm, Nat.mul_mod_mul_left, Nat.mod_mod_of_dvd]
      exact Nat.pow_dvd_pow 2 (by omega)
    omega
  have hlt1 : 2 ^ x * (V % 2 ^ (64 - x)) < 18446744073709551616 := by
    have h1 : V % 2 ^ (64 - x) < 2 ^ (64 - x) := Nat.mod_lt _ (Nat.two_pow_pos _)
    have h2 : 2 ^ x * (V % 2 ^ (64 - x)) < 2 ^ x * 2 ^ (64 - x) := Nat.mul_lt_mul_of_pos_left h1 (Nat.two_pow_pos _)
    omega
  rw [ew, es, u64_or_nat _ _ hlt1 (by omega), ← Nat.two_pow_add_eq_or_of_lt hv]
  have : (V * 2 ^ x + v) % 2 ^ 64 = 2 ^ x * (V % 2 ^ (64 - x)) + v := by
    rw [e64, Nat.mod_mul, Nat.mul_comm V, Nat.mul_add_mod, Nat.mod_eq_of_lt hv, Nat.mul_add_div (Nat.two_pow_pos _), Nat.div_eq_of_lt hv, Nat.add_zero]
    omega
  rw [this]
theorem vOf_div (ws : List Nat) (vs : List Int) (k x b : Nat) {y : Int} (hlt : k < ws.length) (hy0 : 0 ≤ y) (hy : y < 2 ^ x) (hX : x = ws[k]) (hY : y = vs.getD k 0) (hV : vs.length = ws.length) :
    vOf ws vs (k + 1) / 2 ^ (b + x) = vOf ws vs k / 2 ^ b := by
  rw [vOf_succ ws vs k x y hlt hX hY hV]
  obtain ⟨v, rfl⟩ := Int.eq_ofNat_of_zero_le hy0
  have ep : ((2 : Int) ^ x) = ((2 ^ x : Nat) : Int) := by simp
  rw [ep] at hy
  have hv : v < 2 ^ x := by omega
  rw [Int.toNat_natCast, Nat.add_comm b x, Nat.pow_add, ← Nat.div_div_eq_div_mul, Nat.mul_comm (vOf ws vs k), Nat.mul_add_div (Nat.two_pow_pos _), Nat.div_eq_of_lt hv, Nat.add_zero]
theorem bytesV_step (m V c : Nat) (h : Int) (hh : h = heldP V) (hc : c ≤ 32) : bytesV m (V / 2 ^ (c + 8)) ++ [.int .u8 (h / 2 ^ c % 256)] = bytesV (m + 1) (V / 2 ^ c) := by
  have ec : ((2 : Int) ^ c) = ((2 ^ c : Nat) : Int) := by simp
  have e1 : h / 2 ^ c % 256 = ((V / 2 ^ c % 256 : Nat) : Int) := by
    have e64 : (2 : Nat) ^ 64 = 2 ^ c * 2 ^ (64 - c) := by rw [← Nat.pow_add]; congr 1; omega
    have e2 : V % 2 ^ 64 / 2 ^ c % 256 = V / 2 ^ c % 256 := by
      rw [e64, Nat.mod_mul_right_div_self]
      exact Nat.mod_mod_of_dvd _ (by rw [show (256 : Nat) = 2 ^ 8 by rfl]; exact Nat.pow_dvd_pow 2 (by omega))
    rw [hh, heldP, ec, ← Int.natCast_ediv]
    omega
  have e3 : V / 2 ^ (c + 8) = V / 2 ^ c / 256 := by rw [Nat.pow_add, ← Nat.div_div_eq_div_mul]
  rw [bytesV, bytesV, M.bytesN_succ_front, List.map_append, e1, e3]
  rfl
theorem fitI_succ (ws : List Nat) (vs : List Int) (k x : Nat) (y : Int) (hf : fitI ws vs k) (hlt : k < ws.length) (hy0 : 0 ≤ y) (hy : y < 2 ^ x) (hX : x = ws[k]) (hY : y = vs.getD k 0) : fitI ws vs (k + 1) := by
  intro j hj
  by_cases e : j = k
  · subst e
    have : ws.getD j 0 = x := by rw [hX]; simp [List.getD, hlt]
    rw [this, ← hY]
    exact ⟨hy0, hy⟩
  · exact hf j (by omega)
theorem shr_ne (y : Int) (x : Nat) (h : 2 ^ x ≤ y) : (y / 2 ^ x != 0) = true := by
  rw [bne_iff_ne]
  have hp : (0 : Int) < 2 ^ x := Int.pow_pos (by decide)
  have := Int.ediv_le_ediv hp h
  rw [Int.ediv_self (by omega)] at this
  omega

set_option maxRecDepth 100000 in
set_option maxHeartbeats 1000000 in
theorem pack_any (ad ad2 : Option Addr) (cap cap2 n : Nat) (ws : List Nat) (vs : List Int) (w : World) (hw : Seg .i64 w ad (toI ws)) (hv : Seg .i64 w ad2 vs)
    (hvl : vs.length = ws.length) (h64 : ws.length ≤ 64) (hws : ∀ x ∈ ws, 1 ≤ x ∧ x ≤ 32) (htot : M.tot ws = 8 * n) :
    Calls Tryd.prog 44 #[.slice ad ws.length cap, .slice ad2 ws.length cap2] w fun e w' => ∃ v er, e = .returned (.tuple #[v, .int .i64 er]) ∧ Below w.heap.size w w' ∧
      ((fitI ws vs ws.length ∧ er = 0 ∧ w'.ownsRow w.heap.size 5 1 v n (bytesV n (vOf ws vs ws.length))) ∨ (¬ fitI ws vs ws.length ∧ er = 12 ∧ v = .slice none 0 0)) := by
  have hok : okW (toI ws) = true := okW_mk ws h64 hws (by omega)
  have hN : boN (toI ws) = (n : Int) := by simp only [boN, hok, if_true, sumI_toI]; omega
  have hE : boE (toI ws) = 0 := by simp [boE, hok]
  have hl2 : (toI ws).length = ws.length := toI_len ws
  have hnl : n ≤ 256 := by have := M.tot_le ws 32 (fun x hx => (hws x hx).2); omega
  have hbo := fun (W : World) (h : Seg .i64 W ad (toI ws)) => bytesOf_any ad cap (toI ws) W h (by omega)
  rw [hl2, hN, hE] at hbo
  have HB : Hid (∀ (W : World), Seg .i64 W ad (toI ws) → Calls Tryd.prog 55 #[.slice ad ws.length cap] W fun e w' => e = .returned (.tuple #[.int .i64 n, .int .i64 0]) ∧ w' = W) := hbo
  have HT : Hid (M.tot ws = 8 * n) := htot
  have HV : Hid (vs.length = ws.length) := hvl
  clear hbo hN hE hl2 hok htot hvl
  obtain ⟨i0, hi, hz0, hz1, hz2⟩ := info_parts Tryd.infoByte
  go_enter Tryd.func44, Tryd.ntmps44
  go_wp2_with fail
  refine (HB.out _ hw).mono ?_
  rintro e w' ⟨rfl, rfl⟩
  go_wp2_with (first | (at_make; refine wpList_make_own _ rfl _ _ 25 rfl w'.heap.size 5 i0 (.int .u8 0) 1 Tryd.underlying25 hi hz0 hz1 .i64 .i64 _ n rfl rfl rfl (by rw [hz2]; omega) (by unfold maxLen; omega) (Nat.le_refl _) ?_; intro w0 hown0 hgrow0))
  go_loopw [8, 9, 10, 31] (fun ou hd bi ix wr => ∃ k m b : Nat, k ≤ ws.length ∧ ix = .int .i64 k ∧ bi = .int .i64 b ∧ hd = .int .u64 (heldP (vOf ws vs k)) ∧ b ≤ 7 ∧ Hid (8 * m + b = M.tot (ws.take k)) ∧ fitI ws vs k ∧
      wr.ownsRow w'.heap.size 5 1 ou m (bytesV m (vOf ws vs k / 2 ^ b)) ∧ Below w'.heap.size w' wr)
    (fun _ _ _ ix _ => ws.length - (intOf ix).toNat)
  case atStart =>
    refine ⟨0, 0, 0, Nat.zero_le _, rfl, rfl, rfl, by omega, rfl, by intro j hj; omega, ?_, ?_⟩
    · exact hown0
    · exact (Below.refl _ _).grown hgrow0 (Nat.le_refl _) (by intro k hk; cases hk)
  case round =>
    obtain ⟨k, m, b, hk, rfl, rfl, rfl, hb7, H8, hfit, hown, hbel⟩ := hrel
    by_cases hlt : k < ws.length
    · have hw1 := hw.old hbel
      have hv1 := hv.old hbel
      rcases hw1 with hnil | ⟨wb, woff, rfl, hwc⟩
      · exact absurd hnil (toI_ne ws (by omega))
      rcases hv1 with hnil | ⟨vb, voff, rfl, hvc⟩
      · exact absurd HV.out (by rw [hnil]; simp only [List.length_nil]; omega)
      have hcw : wr.cell? ⟨wb, woff + k, none⟩ = some (.int .i64 ((ws[k] : Nat) : Int)) := by
        have := hwc k (by rw [toI_len]; exact hlt)
        rw [toI_getD] at this
        simpa [List.getD, hlt] using this
      have hcv := hvc k (by rw [HV.out]; exact hlt)
      clear hwc hvc
      obtain ⟨x, hx⟩ : ∃ x, x = ws[k] := ⟨_, rfl⟩
      rw [← hx] at hcw
      have hx1 : 1 ≤ x ∧ x ≤ 32 := by rw [hx]; exact hws _ (List.getElem_mem _)
      obtain ⟨hxl, hxu⟩ := hx1
      have HX : Hid (x = ws[k]) := hx
      clear hx
      obtain ⟨y, hy⟩ : ∃ y, y = vs.getD k 0 := ⟨_, rfl⟩
      rw [← hy] at hcv
      have HY : Hid (y = vs.getD k 0) := hy
      clear hy
      by_cases hy0 : 0 ≤ y
      · by_cases hyx : y < 2 ^ x
        · have hq : (y / 2 ^ x != 0) = false := by rw [Int.ediv_eq_zero_of_lt hy0 hyx]; rfl
          obtain ⟨h, hh⟩ : ∃ h, h = heldP (vOf ws vs k) := ⟨_, rfl⟩
          rw [← hh]
          have HH : Hid (h = heldP (vOf ws vs k)) := hh
          clear hh
          have hvs := held_pack ws vs k x y h hlt hxu hy0 hyx HX.out HY.out HV.out HH.out
          have hdiv := vOf_div ws vs k x b hlt hy0 hyx HX.out HY.out HV.out
          have e3 := M.tot_take_succ ws k hlt
          rw [← HX.out] at e3
          have hT1 : Hid (8 * m + (b + x) = M.tot (ws.take (k + 1))) := by have := H8.out; show 8 * m + (b + x) = _; omega
          have hm8 := M.tot_take_le ws (k + 1)
          rw [HT.out, ← hT1.out] at hm8
          obtain ⟨h2, hh2⟩ : ∃ h2, h2 = bits .or .u64 (IntKind.u64.wrap (h * 2 ^ x)) (IntKind.u64.wrap y) := ⟨_, rfl⟩
          rw [← hh2] at hvs
          have HH2 : Hid (h2 = bits .or .u64 (IntKind.u64.wrap (h * 2 ^ x)) (IntKind.u64.wrap y)) := hh2
          have HVS : Hid (h2 = heldP (vOf ws vs (k + 1))) := hvs
          rw [← hdiv] at hown
          clear hh2 hvs hdiv e3
          go_wp2
          rw [← HH2.out]
          obtain ⟨wo, rfl⟩ : ∃ wo : World, wo = wr := ⟨_, rfl⟩
          go_loopw [8, 10] (fun ou bi wr => ∃ m' b' : Nat, bi = .int .i64 b' ∧ b' < 40 ∧ m' ≤ 256 ∧ Hid (8 * m' + b' = M.tot (ws.take (k + 1))) ∧ wr.ownsRow w'.heap.size 5 1 ou m' (bytesV m' (vOf ws vs (k + 1) / 2 ^ b')) ∧ Below w'.heap.size w' wr)
            (fun _ bi _ => (intOf bi).toNat)
          case atStart => exact ⟨m, b + x, by go_num, by omega, by omega, hT1, hown, hbel⟩
          case round =>
            obtain ⟨m', b', rfl, hb40, hm256, H8', hown', hbel'⟩ := hrel
            by_cases hb8 : 8 ≤ b'
            · obtain ⟨c, rfl⟩ : ∃ c, b' = c + 8 := ⟨b' - 8, by omega⟩
              go_wp2_with (first | (at_builtin; refine wpList_append_own _ rfl _ _ 25 rfl w'.heap.size 5 i0 (.int .u8 0) 1 1 Tryd.underlying25 hi hz0 hz1 hz2 rfl (by decide) _ _ _ rfl (hown'.alloc _) ⟨wr.heap.size, 0, none⟩ 1 1 [.int .u8 (h2 / 2 ^ c % 256)] rfl rfl ?c1 ?c2 ?c3 ?c4 ?c5 ?_))
              case c1 => exact cell_one_new _ _ _
              case c2 => intro u hu; simp at hu; subst hu; rfl
              case c3 => unfold maxLen; omega
              case c4 => omega
              case c5 => have := hbel'.size; simp; omega
              intro v' w1 hown1 hgrow1 _
              have hbel1 : Below w'.heap.size w' w1 := (hbel'.alloc hbel'.size _).grown hgrow1 (by have := hbel'.size; simp; omega) (fun j hj => (hown'.lt j hj).1)
              have hby := bytesV_step m' (vOf ws vs (k + 1)) c h2 HVS.out (by omega)
              rw [hby] at hown1
              have hm1 : m' + 1 ≤ 256 := by
                have e1 := H8'.out
                have e2 := M.tot_take_le ws (k + 1)
                have e3 := HT.out
                omega
              clear hgrow1 hown' hbel' hby
              go_wp2
              go_roundw
              case rel => exact ⟨m' + 1, c, by go_num, by omega, hm1, by have := H8'.out; show 8 * (m' + 1) + c = _; omega, hown1, hbel1⟩
              case measure => simp [intOf]; omega
            · go_wp2
              go_roundw
              case rel => exact ⟨k + 1, m', b', by omega, by go_num, rfl, by rw [HVS.out], by omega, H8', fitI_succ ws vs k x y hfit hlt hy0 hyx HX.out HY.out, hown', hbel'⟩
              case measure => simp [intOf]; omega
        · have hq : (y / 2 ^ x != 0) = true := shr_ne y x (by omega)
          have hnf : Hid (¬ fitI ws vs ws.length) := fun hf => hyx (by have := (hf k hlt).2; rw [← HY.out] at this; rw [HX.out]; simpa [List.getD, hlt] using this)
          go_wp2
          go_ret2
          exact ⟨_, _, rfl, hbel, .inr ⟨hnf.out, rfl, rfl⟩⟩
      · have hnf : Hid (¬ fitI ws vs ws.length) := fun hf => hy0 (by have := (hf k hlt).1; rw [← HY.out] at this; exact this)
        go_wp2
        go_ret2
        exact ⟨_, _, rfl, hbel, .inr ⟨hnf.out, rfl, rfl⟩⟩
    · obtain rfl : k = ws.length := by omega
      have e1 := H8.out
      rw [List.take_length, HT.out] at e1
      obtain rfl : b = 0 := by omega
      obtain rfl : m = n := by omega
      rw [Nat.pow_zero, Nat.div_one] at hown
      clear e1
      go_wp2
      go_ret2
      exact ⟨_, _, rfl, hbel, .inl ⟨hfit, rfl, hown⟩⟩
end Go.Proofs.YtfoeepbndfnifaaDoor
