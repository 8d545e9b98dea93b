/-
  view.unpack: the fields of the bytes.
-/
import Derived.Test.YtfoeepbndfnifaaDoorCut
namespace Go.Proofs.YtfoeepbndfnifaaDoor
open Go.RowKit

/-- what 'held' holds behind nx bytes -/
def heldOf (bs : List Nat) (nx : Nat) : Int := ((M.numB (bs.take nx) % 2 ^ 64 : Nat) : Int)
/-- the values laid in behind k fields, zeros behind them -/
def rowOf (fs : List Nat) (k : Nat) : List Value := (fs.take k).map (fun x : Nat => Value.int .i64 (x : Int)) ++ List.replicate (fs.length - k) (Value.int .i64 0)

theorem toI_ne (l : List Nat) (h : 0 < l.length) : toI l ≠ [] := by
  intro e
  have := congrArg List.length e
  rw [toI_len] at this
  simp only [List.length_nil] at this
  omega
theorem or_shift (H y : Nat) (hy : y < 256) : bits .or .u64 (IntKind.u64.wrap ((H : Int) * 256)) (y : Int) = (((H * 256 + y) % 2 ^ 64 : Nat) : Int) := by
  rw [IntKind.wrap_u64]
  have e : ((H : Int) * 256 % 18446744073709551616) = ((256 * (H % 2 ^ 56) : Nat) : Int) := by omega
  rw [e, u64_or_nat _ _ (by omega) (by omega)]
  have h2 := Nat.two_pow_add_eq_or_of_lt (i := 8) (b := y) (by omega) (H % 2 ^ 56)
  have h3 : 256 * (H % 2 ^ 56) ||| y = 256 * (H % 2 ^ 56) + y := h2.symm
  rw [h3]
  omega
theorem held_step (bs : List Nat) (n : Nat) (hn : n < bs.length) (h : Int) (y : Nat) (hh : h = heldOf bs n) (hy : y = bs[n]) (hyl : y < 256) : bits .or .u64 (IntKind.u64.wrap (h * 256)) (y : Int) = heldOf bs (n + 1) := by
  rw [hh, heldOf, or_shift _ _ hyl, heldOf, M.numB_take_succ bs n hn, ← hy]
  omega

theorem rowOf_at (fs : List Nat) (k : Nat) (h : k < fs.length) : (rowOf fs k)[k]? = some (.int .i64 0) := by
  rw [rowOf, List.getElem?_append_right (by simp [Nat.min_le_left])]
  have e : ((fs.take k).map (fun x : Nat => Value.int .i64 (x : Int))).length = k := by simp; omega
  rw [e, Nat.sub_self, List.getElem?_replicate, if_pos (by omega)]
theorem rowOf_succ (fs : List Nat) (k : Nat) (h : k < fs.length) : rowOf fs (k + 1) = (rowOf fs k).set k (.int .i64 ((fs[k] : Nat) : Int)) := by
  have e : ((fs.take k).map (fun x : Nat => Value.int .i64 (x : Int))).length = k := by simp; omega
  rw [rowOf, rowOf, List.set_append_right _ _ (by rw [e]; exact Nat.le_refl _), e, Nat.sub_self]
  rw [List.take_succ_eq_append_getElem h, List.map_append, show fs.length - k = (fs.length - (k + 1)) + 1 by omega, List.replicate_succ]
  simp
/-- the value of a field, as the walk writes it -/
theorem field_val (bs ws : List Nat) (k x c n : Nat) (h : Int) (hlt : k < ws.length) (h256 : ∀ x ∈ bs, x < 256) (hT : M.tot ws = 8 * bs.length) (hn : n ≤ bs.length) (hx : x ≤ 32) (hc : c < 8)
    (h8 : 8 * n = M.tot (ws.take (k + 1)) + c) (hxk : x = ws[k]) (hh : h = heldOf bs n) :
    wrap64 (bits .and .u64 (h / 2 ^ c) (IntKind.u64.wrap (IntKind.u64.wrap (2 ^ x) - 1))) = (((M.fieldsN (M.tot ws) (M.numB bs) ws)[k]'(by rw [M.length_fieldsN]; exact hlt) : Nat) : Int) := by
  rw [M.fieldsN_get _ _ _ _ hlt (Nat.le_refl _), ← hxk, hh, heldOf]
  have hp : (2 : Nat) ^ x ≤ 2 ^ 32 := Nat.pow_le_pow_right (by decide) hx
  have hp0 : 0 < (2 : Nat) ^ x := Nat.two_pow_pos _
  have ep : ((2 : Int) ^ x) = ((2 ^ x : Nat) : Int) := by simp
  have ec : ((2 : Int) ^ c) = ((2 ^ c : Nat) : Int) := by simp
  have em : IntKind.u64.wrap (IntKind.u64.wrap (2 ^ x) - 1) = ((2 ^ x - 1 : Nat) : Int) := by
    rw [IntKind.wrap_u64, IntKind.wrap_u64, ep]
    generalize 2 ^ x = p at *
    omega
  rw [em, ec, ← Int.natCast_ediv]
  have hlt2 : M.numB (bs.take n) % 2 ^ 64 / 2 ^ c < 18446744073709551616 := Nat.lt_of_le_of_lt (Nat.div_le_self _ _) (Nat.mod_lt _ (by decide))
  rw [u64_and_nat _ _ hlt2 (by generalize 2 ^ x = p at *; omega), Nat.and_two_pow_sub_one_eq_mod]
  have e1 : M.numB (bs.take n) % 2 ^ 64 / 2 ^ c % 2 ^ x = M.numB (bs.take n) / 2 ^ c % 2 ^ x := by
    have e : (2 : Nat) ^ 64 = 2 ^ c * 2 ^ (64 - c) := by rw [← Nat.pow_add]; congr 1; omega
    rw [e, Nat.mod_mul_right_div_self]
    exact Nat.mod_mod_of_dvd _ (Nat.pow_dvd_pow 2 (by omega))
  rw [e1, M.numB_take bs h256 n hn, Nat.div_div_eq_div_mul]
  have e2 : (256 : Nat) ^ (bs.length - n) * 2 ^ c = 2 ^ (M.tot ws - M.tot (ws.take (k + 1))) := by
    rw [show (256 : Nat) = 2 ^ 8 by rfl, ← Nat.pow_mul, ← Nat.pow_add]
    congr 1; omega
  rw [e2]
  have hr : M.numB bs / 2 ^ (M.tot ws - M.tot (ws.take (k + 1))) % 2 ^ x < 2 ^ x := Nat.mod_lt _ hp0
  generalize M.numB bs / 2 ^ (M.tot ws - M.tot (ws.take (k + 1))) % 2 ^ x = r at *
  unfold wrap64
  omega

set_option maxHeartbeats 400000 in
set_option maxRecDepth 100000 in
theorem unpack_any (ad ad2 : Option Addr) (cap cap2 : Nat) (bs ws : List Nat) (w : World) (hb : Seg .u8 w ad (toI bs)) (hw : Seg .i64 w ad2 (toI ws))
    (h256 : ∀ x ∈ bs, x < 256) (h64 : ws.length ≤ 64) (hws : ∀ x ∈ ws, 1 ≤ x ∧ x ≤ 32) (htot : M.tot ws = 8 * bs.length) :
    Calls Tryd.prog 57 #[.slice ad bs.length cap, .slice ad2 ws.length cap2] w fun e w' => ∃ v, e = .returned v ∧
      w'.ownsRow w.heap.size 3 1 v ws.length ((M.fieldsN (M.tot ws) (M.numB bs) ws).map (fun x : Nat => Value.int .i64 (x : Int))) ∧ Below w.heap.size w w' := by
  obtain ⟨i0, hi, hz0, hz1, hz2⟩ := info_parts Tryd.infoInt
  have hbl : bs.length ≤ 256 := by have := M.tot_le ws 32 (fun x hx => (hws x hx).2); omega
  have HT : Hid (M.tot ws = 8 * bs.length) := htot
  clear htot
  go_enter Tryd.func57, Tryd.ntmps57
  go_wp2_with (first | (at_make; refine wpList_make_full _ rfl _ _ 78 rfl w.heap.size 3 i0 (.int .i64 0) 1 Tryd.underlying78 hi hz0 hz1 .i64 .i64 _ _ ws.length rfl rfl rfl rfl (by rw [hz2]; omega) (by unfold maxLen; omega) (Nat.le_refl _) ?_; intro w0 hown0 hgrow0))
  go_loopw [6, 7, 8, 16] (fun hd bi nx ix wr => ∃ k n b : Nat, k ≤ ws.length ∧ ix = .int .i64 k ∧ nx = .int .i64 n ∧ bi = .int .i64 b ∧ hd = .int .u64 (heldOf bs n) ∧ b ≤ 7 ∧ Hid (8 * n = M.tot (ws.take k) + b) ∧ n ≤ bs.length ∧
      wr.ownsRow w.heap.size 3 1 (.slice (some ⟨w.heap.size, 0, none⟩) ws.length ws.length) ws.length (rowOf (M.fieldsN (M.tot ws) (M.numB bs) ws) k) ∧ Below w.heap.size w wr)
    (fun _ _ _ ix _ => ws.length - (intOf ix).toNat)
  case atStart =>
    refine ⟨0, 0, 0, Nat.zero_le _, rfl, rfl, rfl, rfl, by omega, rfl, by omega, ?_, ?_⟩
    · simp only [rowOf, List.take_zero, List.map_nil, List.nil_append, M.length_fieldsN, Nat.sub_zero]
      rw [show (Value.int IntKind.i64 0).cells = #[Value.int IntKind.i64 0] from rfl, toList_madeCells_one, Nat.mul_one] at hown0
      exact hown0
    · exact (Below.refl _ _).grown hgrow0 (Nat.le_refl _) (by intro k hk; cases hk)
  case round =>
    obtain ⟨k, n, b, hk, rfl, rfl, rfl, rfl, hb7, H8, hn, hown, hbel⟩ := hrel
    by_cases hlt : k < ws.length
    · have hw1 := hw.old hbel
      have hb1 := hb.old hbel
      rcases hw1 with hnil | ⟨wb, woff, rfl, hwc⟩
      · exact absurd hnil (toI_ne ws (by omega))
      have hcw : wr.cell? ⟨wb, woff + k, none⟩ = some (.int .i64 ((ws[k] : Nat) : Int)) := by
        have := hwc k (by rw [toI_len]; exact hlt)
        rw [toI_getD] at this
        simpa [List.getD, hlt] using this
      clear hwc
      obtain ⟨x, hx⟩ : ∃ x, x = ws[k] := ⟨_, rfl⟩
      rw [← hx] at hcw
      have hx1 : 1 ≤ x ∧ x ≤ 32 := by rw [hx]; exact hws _ (List.getElem_mem _)
      obtain ⟨hxl, hxu⟩ := hx1
      have HX : Hid (x = ws[k]) := hx
      clear hx
      go_wp2
      go_loop [6, 7, 8] (fun hd bi nx => ∃ n' b' : Nat, nx = .int .i64 n' ∧ bi = .int .i64 b' ∧ hd = .int .u64 (heldOf bs n') ∧ b' < x + 8 ∧ Hid (8 * n' = M.tot (ws.take k) + b') ∧ n' ≤ bs.length)
        (fun _ bi _ => x + 8 - (intOf bi).toNat)
      case atStart => exact ⟨n, b, rfl, rfl, rfl, by omega, H8, hn⟩
      case round =>
        obtain ⟨n', b', rfl, rfl, rfl, hb8, H8', hn'⟩ := hrel
        by_cases hbx : b' < x
        · have hnl : n' < bs.length := by
            have e1 := H8'.out
            have e2 := HT.out
            have e3 := M.tot_take_succ ws k hlt
            have e4 := M.tot_take_le ws (k + 1)
            have e5 := HX.out
            omega
          rcases hb1 with hnil | ⟨bb, boff, rfl, hbc⟩
          · exact absurd hnil (toI_ne bs (by omega))
          have hcb : wr.cell? ⟨bb, boff + n', none⟩ = some (.int .u8 ((bs[n'] : Nat) : Int)) := by
            have := hbc n' (by rw [toI_len]; exact hnl)
            rw [toI_getD] at this
            simpa [List.getD, hnl] using this
          clear hbc
          obtain ⟨y, hy⟩ : ∃ y, y = bs[n'] := ⟨_, rfl⟩
          rw [← hy] at hcb
          have hyl : y < 256 := by rw [hy]; exact h256 _ (List.getElem_mem _)
          have HY : Hid (y = bs[n']) := hy
          clear hy
          obtain ⟨h, hh⟩ : ∃ h, h = heldOf bs n' := ⟨_, rfl⟩
          rw [← hh]
          have HH : Hid (h = heldOf bs n') := hh
          clear hh
          go_wp2
          go_round
          case rel => exact ⟨n' + 1, b' + 8, by go_num, by go_num, by rw [held_step bs n' hnl h y HH.out HY.out hyl], by omega, by have := H8'.out; show 8 * (n' + 1) = _; omega, by omega⟩
          case measure => simp [intOf]; omega
        · obtain ⟨c, rfl⟩ : ∃ c, b' = x + c := ⟨b' - x, by omega⟩
          have hcell : wr.cell? ⟨w.heap.size, k, none⟩ = (rowOf (M.fieldsN (M.tot ws) (M.numB bs) ws) k)[k]? := hown.cellAt k (by omega)
          have hfro : wr.frozen? ⟨w.heap.size, k, none⟩ = false := hown.frozenAt k
          have hr := rowOf_at (M.fieldsN (M.tot ws) (M.numB bs) ws) k (by rw [M.length_fieldsN]; exact hlt)
          rw [hr] at hcell
          clear hr
          obtain ⟨h, hh⟩ : ∃ h, h = heldOf bs n' := ⟨_, rfl⟩
          rw [← hh]
          have HH : Hid (h = heldOf bs n') := hh
          clear hh
          go_wp2
          go_region
          go_wp2
          go_roundw
          case rel =>
            have e1 := H8'.out
            have e3 := M.tot_take_succ ws k hlt
            have e5 := HX.out
            rw [← e5] at e3
            have hv := field_val bs ws k x c n' h hlt h256 HT.out hn' (by omega) (by omega) (by rw [e3]; omega) e5 HH.out
            refine ⟨k + 1, n', c, by omega, by go_num, rfl, by congr 1; omega, by rw [HH.out], by omega, ?_, hn', ?_, ?_⟩
            · show 8 * n' = _
              rw [e3]; omega
            · rw [hv, rowOf_succ _ _ (by rw [M.length_fieldsN]; exact hlt)]
              exact (hown.stored k _).1.drew
            · exact (hbel.setCell (Nat.le_refl _) _).drew
          case measure => simp [intOf]; omega
    · obtain rfl : k = ws.length := by omega
      go_wp2
      go_ret
      refine ⟨_, rfl, ?_, hbel⟩
      have e : rowOf (M.fieldsN (M.tot ws) (M.numB bs) ws) ws.length = (M.fieldsN (M.tot ws) (M.numB bs) ws).map (fun x : Nat => Value.int .i64 (x : Int)) := by
        rw [rowOf, M.length_fieldsN, List.take_of_length_le (by rw [M.length_fieldsN]; exact Nat.le_refl _)]
        simp
      rw [← e]
      exact hown
end Go.Proofs.YtfoeepbndfnifaaDoor
