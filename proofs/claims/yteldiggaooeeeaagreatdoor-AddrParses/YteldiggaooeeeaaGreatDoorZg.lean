/-
  Layer 4: math/bits.TrailingZeros64 at 16, strconv.FormatInt at base 16.
-/
/-
  Layer 4: addr.longestZeros.
-/
/-
  Layer 4: addr.grouped.
-/
/-
  Layer 4: addr.PrintIP, addr.PrintPrefix.
-/
/-
  Layer 4: link addresses; addr.PrintMac.
-/
import Derived.Test.YteldiggaooeeeaaGreatDoorAdOp
import Derived.Laws.BitsAllLaws
import Derived.Test.YteldiggaooeeeaaGreatDoorMixJ
namespace Go.Proofs.YteldiggaooeeeaaGreatDoor
open Go.RowKit Go.Maps

set_option maxHeartbeats 1600000 in
set_option maxRecDepth 100000 in
theorem tz_any (w : World) (hd : Deb w) : Calls Tryz.prog 121 #[.int .u64 16] w fun r w' => r = .returned (.int .i64 4) ∧ w = w' := by
  have c : w.cell? ⟨4, 15, none⟩ = some (.int .u8 4) := hd.cell Tryz.g64 15 (by decide)
  have z1 : IntKind.u64.wrap (bits BinOp.and IntKind.u64 16 (IntKind.u64.wrap (-16)) * 285870213051353865) / 288230376151711744 = 15 := by decide +kernel
  clear hd
  go_enter Tryz.func121, Tryz.ntmps121
  go_wp2
  go_ret
  exact ⟨rfl, rfl⟩
set_option maxHeartbeats 1600000 in
set_option maxRecDepth 100000 in
theorem tzs_any (w : World) (hd : Deb w) : Calls Tryz.prog 118 #[.int .u64 16] w fun r w' => r = .returned (.int .i64 4) ∧ w = w' := by
  have HD : Hid (Deb w) := hd
  clear hd
  go_enter Tryz.func118, Tryz.ntmps118
  go_wp2_with fail
  refine (tz_any w HD.out).mono ?_
  rintro e wz ⟨rfl, rfl⟩
  go_wp2
  go_ret
  exact ⟨rfl, rfl⟩
set_option maxHeartbeats 1600000 in
set_option maxRecDepth 100000 in
theorem pow2_any (w : World) : Calls Tryz.prog 117 #[.int .i64 16] w fun r w' => r = .returned (.bool true) ∧ w = w' := by
  have b1 : bits BinOp.and IntKind.i64 16 15 = 0 := by decide +kernel
  go_enter Tryz.func117, Tryz.ntmps117
  go_wp2
  go_ret
  exact ⟨rfl, rfl⟩
/-- the digits that the library writes -/
def dgS : ByteArray := ⟨#[48, 49, 50, 51, 52, 53, 54, 55, 56, 57, 97, 98, 99, 100, 101, 102, 103, 104, 105, 106, 107, 108, 109, 110, 111, 112, 113, 114, 115, 116, 117, 118, 119, 120, 121, 122]⟩
theorem dgS_at {k : Nat} (h : k < 16) : sB dgS k = hd k := by
  have : ∀ i : Fin 16, sB dgS i.val = hd i.val := by decide +kernel
  exact this ⟨k, h⟩
theorem hd_lt {k : Nat} (h : k < 16) : hd k < 256 := by unfold hd; split <;> omega
theorem wpList_sBu {ops : Array Oper} {rest : List Oper} {o : Oper} {a : Act} {w : World} {Q : Exit → Act → World → Prop} (x y : Operand) (ho : o.op = .index 9 x y) (k : IntKind) (s : ByteArray) (p : Nat) (z : Int) (hx : a.eval x = .string s) (hy : a.eval y = .int k z) (hz : z = (p : Int)) (hp : p < s.size) (hw : Region.wanted o (yielded ops a.tmps) = true)
    (h : wpList Tryz.prog ops Q rest (a.put o.dst (.int .u8 (sB s p : Nat))) w) : wpList Tryz.prog ops Q (o :: rest) a w := by
  refine wpList_step fun K hK => ?_
  rw [if_pos hw]
  have hrun : (execOp a.eval o).run Tryz.prog w = .ok (.value (.int .u8 (sB s p : Nat))) w := by
    obtain ⟨dst, op, type, pos, after, guard⟩ := o
    simp only at ho
    subst ho
    simp only [execOp, Sem.run_bind, hx, hy, hz]
    rw [run_index_string w 9 s k (p : Int) Tryz.underlying9, dif_pos (by omega)]
    simp only [Result.andThen_ok, Int.toNat_natCast, sB_get s p hp]
    rfl
  unfold Oper.wp
  rw [hrun]
  exact hK _ _ h
theorem and15 (u : Nat) (h : u < 65536) : bits BinOp.and IntKind.u64 (u : Int) 15 = ((u % 16 : Nat) : Int) := by
  have h1 := Go.u64_and_nat u 15 (by omega) (by omega)
  rw [show ((15 : Nat) : Int) = 15 from rfl] at h1
  rw [h1]
  congr 1
  exact Nat.and_two_pow_sub_one_eq_mod u 4
theorem shr4 (u : Nat) : (u : Int).fdiv (2 ^ min (Int.toNat 4) IntKind.u64.bits) = ((u / 16 : Nat) : Int) := by
  rw [show (2 ^ min (Int.toNat 4) IntKind.u64.bits : Int) = 16 from rfl, Int.fdiv_eq_ediv_of_nonneg _ (by omega)]
  omega
theorem hexL_big {v : Nat} (h : 16 ≤ v) (hv : v < 65536) : hexL v = hexL (v / 16) ++ [hd (v % 16)] := by
  unfold hexL
  rw [if_neg (by omega)]
  by_cases h1 : v < 256
  · rw [if_pos h1, if_pos (by omega)]; rfl
  · rw [if_neg h1, if_neg (show ¬ v / 16 < 16 by omega)]
    by_cases h2 : v < 4096
    · rw [if_pos h2, if_pos (by omega), Nat.div_div_eq_div_mul]
      rfl
    · rw [if_neg h2, if_neg (show ¬ v / 16 < 256 by omega), if_pos (by omega), Nat.div_div_eq_div_mul, Nat.div_div_eq_div_mul]
      rfl
theorem hexL_one {v : Nat} (h : v < 16) : hexL v = [hd v] := by unfold hexL; rw [if_pos h]
theorem hexL_hi (v : Nat) : (hexL v).length ≤ 4 := by unfold hexL; split <;> (try split) <;> (try split) <;> simp
theorem hexL_lt {v : Nat} (h : v < 65536) : ∀ x ∈ hexL v, x < 256 := fun x hx => by
  have := (hexL_grp h).hx x hx
  unfold hxB wth dgB at this
  simp at this
  refine Nat.lt_of_not_le fun hge => ?_
  rw [if_neg (by omega), if_neg (by omega), if_neg (by omega)] at this
  omega
/-- the last cells of a block are these bytes -/
def Tl (w : World) (A : Nat) (t : List Nat) : Prop := ∃ C : Array Value, w.heap[A]? = some (.cells C 157 (0, 0)) ∧ C.size = 65 ∧ C.toList.drop (65 - t.length) = t.map fun n => Value.int .u8 (n : Nat)
theorem Tl.lt {w : World} {A : Nat} {t : List Nat} (h : Tl w A t) : A < w.heap.size := by obtain ⟨C, h1, _⟩ := h; exact (Array.getElem?_eq_some_iff.1 h1).1
theorem Tl.cell {w : World} {A : Nat} {t : List Nat} (h : Tl w A t) (i : Nat) (hi : i < 65) : ∃ v, w.cell? ⟨A, i, none⟩ = some v := by
  obtain ⟨C, h1, h2, _⟩ := h
  exact ⟨C[i], by simp [World.cell?, h1]⟩
theorem Tl.fz {w : World} {A : Nat} {t : List Nat} (h : Tl w A t) (i : Nat) : w.frozen? ⟨A, i, none⟩ = false := by obtain ⟨C, h1, _⟩ := h; simp [World.frozen?, h1]
theorem Tl.below {w w' : World} {A : Nat} {t : List Nat} (h : Tl w A t) (b : Below w.heap.size w w') : Tl w' A t := by obtain ⟨C, h1, h2⟩ := h; exact ⟨C, (b.block A (Array.getElem?_eq_some_iff.1 h1).1).trans h1, h2⟩
theorem Tl.set {w : World} {A : Nat} {t : List Nat} (h : Tl w A t) (n : Nat) (ht : t.length < 65) : Tl (w.setCell ⟨A, 64 - t.length, none⟩ (.int .u8 (n : Nat))) A (n :: t) := by
  obtain ⟨C, h1, h2, h3⟩ := h
  refine ⟨C.setIfInBounds (64 - t.length) (.int .u8 (n : Nat)), heap_setCell_same w A (64 - t.length) C _ _ h1, by simpa using h2, ?_⟩
  have hl : 64 - t.length < (C.setIfInBounds (64 - t.length) (.int .u8 (n : Nat))).toList.length := by simp; omega
  rw [List.length_cons, show 65 - (t.length + 1) = 64 - t.length by omega, List.drop_eq_getElem_cons hl]
  simp only [List.map_cons]
  congr 1
  · simp
  · rw [Array.toList_setIfInBounds, List.drop_set_of_lt (by omega), show 64 - t.length + 1 = 65 - t.length by omega]
    exact h3
theorem Tl.seg {w : World} {A : Nat} {t : List Nat} (h : Tl w A t) : Seg .u8 w (some ⟨A, 65 - t.length, none⟩) (toI t) := by
  obtain ⟨C, h1, h2, h3⟩ := h
  refine .inr ⟨A, 65 - t.length, rfl, fun j hj => ?_⟩
  rw [toI_len] at hj
  have h4 : C[65 - t.length + j]? = some (.int .u8 (t.getD j 0 : Nat)) := by
    have h5 := congrArg (fun l => l[j]?) h3
    simp only [List.getElem?_drop, List.getElem?_map] at h5
    rw [← Array.getElem?_toList, h5, List.getD_eq_getElem?_getD, List.getElem?_eq_getElem hj]
    rfl
  rw [toI_getD]
  simp only [World.cell?, h1]
  exact h4
set_option maxHeartbeats 1600000 in
set_option maxRecDepth 100000 in
theorem fbits_any (v : Nat) (w : World) (hv : v < 65536) (hd : Deb w) : Calls Tryz.prog 103 #[.slice none 0 0, .int .u64 (v : Nat), .int .i64 16, .bool false, .bool false] w fun r w' => r = .returned (.tuple #[.slice none 0 0, .string (txB (hexL v))]) ∧ Below w.heap.size w w' := by
  have HD : Hid (Deb w) := hd
  have HV : Hid (v < 65536) := hv
  clear hd hv
  go_enter Tryz.func103, Tryz.ntmps103
  go_upto_region 7 with fail
  obtain ⟨A, hA⟩ : ∃ A, A = w.heap.size := ⟨_, rfl⟩
  obtain ⟨W, hW⟩ : ∃ W, W = w.alloc (.cells Tryz.zeroCells157 157) := ⟨_, rfl⟩
  have H0 : Hid (Tl W A [] ∧ Below w.heap.size w W) := by
    rw [hW, hA]
    have hsz : Tryz.zeroCells157.size = 65 := by kernel_rfl
    exact ⟨⟨_, heap_alloc_new _ _, hsz, by simp [hsz]⟩, (Below.refl _ _).alloc (Nat.le_refl _) _⟩
  have HA : Hid (w.heap.size = A) := hA.symm
  rw [← hW, ← hA]
  clear hW hA
  go_wp2_with fail
  refine (pow2_any W).mono ?_
  rintro e wz ⟨rfl, rfl⟩
  go_wp2_with fail
  refine (tzs_any W (HD.out.below H0.out.2)).mono ?_
  rintro e wz ⟨rfl, rfl⟩
  go_wp2
  go_loopw [1, 13] (fun uv iv wr => ∃ (u i : Nat) (t : List Nat), u < 65536 ∧ i ≤ 64 ∧ uv = .int .u64 (u : Nat) ∧ iv = .int .i64 ((i : Int) + 1) ∧ Hid (t.length + i = 64 ∧ hexL v = hexL u ++ t) ∧ Hid (Tl wr A t ∧ Below w.heap.size w wr)) (fun uv _ _ => (intOf uv).toNat)
  case atStart => exact ⟨v, 64, [], HV.out, by omega, rfl, rfl, ⟨rfl, by simp⟩, H0.out⟩
  case round =>
    obtain ⟨u, i, t, hu, hi, rfl, rfl, HI, HT⟩ := hrel
    have HU : Hid (u < 65536 ∧ i ≤ 64) := ⟨hu, hi⟩
    have x1 : IntKind.i64.wrap ((i : Int) + 1 - 1) = (i : Int) := by rw [Int.add_sub_cancel]; exact i64_s _ (by omega) (by omega)
    clear hu hi
    have HTL : Hid (t.length < 4) := by
      have h1 := hexL_hi v
      have h2 := (hexL_grp HU.out.1).lo
      rw [HI.out.2, List.length_append] at h1
      show _ < _
      omega
    have b1 : (0 : Int) ≤ (i : Int) := by omega
    have b2 : (i : Int) < 65 := by have := HU.out; omega
    have b3 : i < 65 := by have := HU.out; omega
    by_cases h16 : 16 ≤ u
    · have q1 : decide ((16 : Int) ≤ (u : Int)) = true := decide_eq_true (by omega)
      have q2 : decide (16 ≤ u) = true := decide_eq_true h16
      have q3 : (16 : Int) ≤ (u : Int) := by omega
      have H16 : Hid (16 ≤ u) := h16
      have a1 := and15 u HU.out.1
      have s1 : (u : Int).fdiv (2 ^ min (Int.toNat 4) IntKind.u64.bits) = ((u / 16 : Nat) : Int) := shr4 u
      have HK : Hid (u % 16 < 36 ∧ sB dgS (u % 16) = hd (u % 16)) := ⟨by omega, dgS_at (by omega)⟩
      obtain ⟨z, hz⟩ := HT.out.1.cell i b3
      have fz := HT.out.1.fz i
      have hset := HT.out.1.set (sB dgS (u % 16)) (by have := HTL.out; omega)
      rw [show 64 - t.length = i by have := HI.out.1; omega] at hset
      have HS : Hid (Tl (wr.setCell ⟨A, i, none⟩ (.int .u8 (sB dgS (u % 16) : Nat))) A (sB dgS (u % 16) :: t) ∧ Below w.heap.size w (wr.setCell ⟨A, i, none⟩ (.int .u8 (sB dgS (u % 16) : Nat)))) := ⟨hset, HT.out.2.trans (((Ch.refl (fun k => k = A) wr).set ⟨A, i, none⟩ _ rfl).below (fun q h => by have h' : q = A := h; have := HA.out; omega) HT.out.2.size)⟩
      clear hset h16
      go_wp2_with (refine wpList_sBu (.const (.string dgS)) (.tmp 52) rfl .u64 dgS (u % 16) _ rfl rfl rfl HK.out.1 rfl ?_)
      go_roundw
      case rel => exact ⟨u / 16, i - 1, sB dgS (u % 16) :: t, by have := HU.out; omega, by have := HU.out; omega, rfl, by have h1 := HTL.out; have h2 := HI.out.1; congr 1; omega, ⟨by have h1 := HTL.out; have h2 := HI.out.1; rw [List.length_cons]; omega, by rw [HI.out.2, hexL_big H16.out HU.out.1, HK.out.2]; simp⟩, HS.out⟩
      case measure => have := H16.out; simp [intOf]; omega
    · have q1 : decide ((16 : Int) ≤ (u : Int)) = false := decide_eq_false (by omega)
      have q2 : decide (16 ≤ u) = false := decide_eq_false h16
      have q3 : ¬ (16 : Int) ≤ (u : Int) := by omega
      have al : Tryz.prog.arrayLen 157 = 65 := by kernel_rfl
      have b4 : (i : Int) ≤ 65 := by omega
      have HK : Hid (u < 36 ∧ sB dgS u = hd u ∧ u < 16) := ⟨by omega, dgS_at (by omega), by omega⟩
      obtain ⟨z, hz⟩ := HT.out.1.cell i b3
      have fz := HT.out.1.fz i
      have hset := HT.out.1.set (sB dgS u) (by have := HTL.out; omega)
      rw [show 64 - t.length = i by have := HI.out.1; omega] at hset
      have HL : Hid ((sB dgS u :: t).length = 65 - i ∧ sB dgS u :: t = hexL v) := ⟨by have := HI.out.1; rw [List.length_cons]; omega, by rw [HI.out.2, hexL_one HK.out.2.2, HK.out.2.1]; rfl⟩
      have kc : (convert 50 9 (.slice (some ⟨A, i, none⟩) (65 - i) (65 - i))).run Tryz.prog (wr.setCell ⟨A, i, none⟩ (.int .u8 (sB dgS u : Nat))) = .ok (.string (txB (hexL v))) (wr.setCell ⟨A, i, none⟩ (.int .u8 (sB dgS u : Nat))) := by
        have h := conv_any _ _ (65 - i) (hexL v) (by have h1 := hset.seg; rw [HL.out.1, show 65 - (65 - i) = i by omega, HL.out.2] at h1; exact h1) (hexL_lt HV.out)
        rw [← HL.out.2, HL.out.1] at h
        rw [← HL.out.2]
        exact h
      have HS : Hid (Below w.heap.size w (wr.setCell ⟨A, i, none⟩ (.int .u8 (sB dgS u : Nat)))) := HT.out.2.trans (((Ch.refl (fun k => k = A) wr).set ⟨A, i, none⟩ _ rfl).below (fun q h => by have h' : q = A := h; have := HA.out; omega) HT.out.2.size)
      clear hset h16
      go_wp2_with (refine wpList_sBu (.const (.string dgS)) (.tmp 61) rfl .u64 dgS u _ rfl rfl rfl HK.out.1 rfl ?_)
      refine bodyPost_ret (results_tmp2 rfl _ _ _) rfl ?_
      exact ⟨rfl, HS.out⟩
set_option maxHeartbeats 1600000 in
set_option maxRecDepth 100000 in
theorem ifmt_any (v : Nat) (w : World) (hv : v < 65536) (hd : Deb w) : Calls Tryz.prog 73 #[.int .i64 (v : Nat), .int .i64 16] w fun r w' => r = .returned (.string (txB (hexL v))) ∧ Below w.heap.size w w' := by
  have HD : Hid (Deb w) := hd
  have HV : Hid (v < 65536) := hv
  have x1 : IntKind.u64.wrap (v : Int) = (v : Int) := by have : IntKind.u64.wrap (v : Int) = (v : Int) % 18446744073709551616 := rfl; rw [this]; omega
  have q1 : decide ((v : Int) < 0) = false := decide_eq_false (by omega)
  clear hd hv
  go_enter Tryz.func73, Tryz.ntmps73
  go_wp2_with fail
  refine (fbits_any v w HV.out HD.out).mono ?_
  rintro e w1 ⟨rfl, hb⟩
  have HB : Hid (Below w.heap.size w w1) := hb
  clear hb
  go_wp2
  go_ret
  exact ⟨rfl, HB.out⟩
set_option maxHeartbeats 1600000 in
set_option maxRecDepth 100000 in
theorem fmt_any (v : Nat) (w : World) (hv : v < 65536) (hd : Deb w) : Calls Tryz.prog 40 #[.int .i64 (v : Nat), .int .i64 16] w fun r w' => r = .returned (.string (txB (hexL v))) ∧ Below w.heap.size w w' := by
  have HD : Hid (Deb w) := hd
  have HV : Hid (v < 65536) := hv
  clear hd hv
  go_enter Tryz.func40, Tryz.ntmps40
  go_wp2_with fail
  refine (ifmt_any v w HV.out HD.out).mono ?_
  rintro e w1 ⟨rfl, hb⟩
  have HB : Hid (Below w.heap.size w w1) := hb
  clear hb
  go_wp2
  go_ret
  exact ⟨rfl, HB.out⟩
end Go.Proofs.YteldiggaooeeeaaGreatDoor
namespace Go.Proofs.YteldiggaooeeeaaGreatDoor
open Go.RowKit Go.Maps

/-- the groups' texts -/
def gtX (x : Nat → Nat) (k : Nat) : ByteArray := txB (hexL (gx x k))
theorem hx_zero {v : Nat} (_h : v < 65536) : ((txB (hexL v)).toList == [48]) = decide (v = 0) := by
  rw [ByteArray.toList_eq, txB_data]
  unfold hexL
  by_cases h1 : v < 16
  · rw [if_pos h1]
    have : ∀ k : Fin 16, (([hd k.val]).map UInt8.ofNat == [48]) = decide (k.val = 0) := by decide
    exact this ⟨v, h1⟩
  · rw [if_neg h1, decide_eq_false (by omega)]
    split
    · simp
    · split <;> simp
set_option maxHeartbeats 1600000 in
set_option maxRecDepth 100000 in
theorem lz_any (x : Nat → Nat) (g c : Nat) (w : World) (hx : ∀ i, i < 16 → x i < 256) (hc : ∀ j, j < 8 → w.cell? ⟨g, j, none⟩ = some (.string (gtX x j))) : Calls Tryz.prog 41 #[.slice (some ⟨g, 0, none⟩) 8 c] w fun r w' => r = .returned (.tuple #[.int .i64 ((lzN x 8).1 : Nat), .int .i64 ((lzN x 8).2 : Nat)]) ∧ w = w' := by
  have HX : Hid (∀ i, i < 16 → x i < 256) := hx
  have HC : Hid (∀ j, j < 8 → w.cell? ⟨g, j, none⟩ = some (.string (gtX x j))) := hc
  clear hx hc
  go_enter Tryz.func41, Tryz.ntmps41
  go_wp2
  go_loopw [2, 3, 8] (fun fv tv iv wr => ∃ i : Nat, i ≤ 8 ∧ iv = .int .i64 (i : Nat) ∧ fv = .int .i64 ((lzN x i).1 : Nat) ∧ tv = .int .i64 ((lzN x i).2 : Nat) ∧ w = wr) (fun _ _ iv _ => 8 - (intOf iv).toNat)
  case atStart => exact ⟨0, by omega, rfl, rfl, rfl, rfl⟩
  case round =>
    obtain ⟨i, hi8, rfl, rfl, rfl, rfl⟩ := hrel
    have HI8 : Hid (i ≤ 8) := hi8
    obtain ⟨a, ha⟩ : ∃ a, (lzN x i).1 = a := ⟨_, rfl⟩
    obtain ⟨b, hb⟩ : ∃ b, (lzN x i).2 = b := ⟨_, rfl⟩
    have HAB : Hid ((lzN x i).1 = a ∧ (lzN x i).2 = b ∧ a ≤ b ∧ b ≤ 8) := by have h := lzN_at x i hi8; rw [ha, hb] at h; exact ⟨ha, hb, h.1, h.2.1⟩
    rw [ha, hb]
    clear ha hb hi8
    by_cases hlt : i < 8
    · have p1 : decide ((i : Int) < 8) = true := decide_eq_true (by omega)
      have p2 : decide (i < 8) = true := decide_eq_true hlt
      have p3 : (i : Int) < 8 := by omega
      have HLT : Hid (i < 8) := hlt
      have x3 : IntKind.i64.wrap ((i : Int) + 1) = (i : Int) + 1 := i64_s _ (by omega) (by omega)
      clear hlt
      go_wp2
      go_loopw [5] (fun ev wr => ∃ e : Nat, i ≤ e ∧ e ≤ 8 ∧ ev = .int .i64 (e : Nat) ∧ Hid (zE x e = zE x i) ∧ w = wr) (fun ev _ => 8 - (intOf ev).toNat)
      case atStart => exact ⟨i, Nat.le_refl _, HI8.out, rfl, rfl, rfl⟩
      case round =>
        obtain ⟨e, he1, he2, rfl, HE, rfl⟩ := hrel
        have HEB : Hid (i ≤ e ∧ e ≤ 8) := ⟨he1, he2⟩
        clear he1 he2
        by_cases hle : e < 8
        · have r1 : decide ((e : Int) < 8) = true := decide_eq_true (by omega)
          have r2 : decide (e < 8) = true := decide_eq_true hle
          have r3 : (e : Int) < 8 := by omega
          have r4 : (0 : Int) ≤ (e : Int) := by omega
          have HLE : Hid (e < 8) := hle
          have cE := HC.out e hle
          by_cases hz : gx x e = 0
          · have z1 : ((gtX x e).toList == [48]) = true := by unfold gtX; rw [hx_zero (gx_lt HX.out hle), decide_eq_true hz]
            have HZ : Hid (zE x (e + 1) = zE x i) := by show _ = _; rw [← zE_step hle hz]; exact HE.out
            have x4 : IntKind.i64.wrap ((e : Int) + 1) = (e : Int) + 1 := i64_s _ (by omega) (by omega)
            clear hle hz
            go_wp2
            go_roundw
            case rel => exact ⟨e + 1, by have := HEB.out; omega, HLE.out, by simp, HZ.out, by first | rfl | trivial⟩
            case measure => have := HLE.out; simp [intOf]; omega
          · have z1 : ((gtX x e).toList == [48]) = false := by unfold gtX; rw [hx_zero (gx_lt HX.out hle), decide_eq_false hz]
            have HZ : Hid (zE x i = e) := by show _ = _; rw [← HE.out]; exact zE_stop hle hz
            clear hle hz
            have y1 : IntKind.i64.wrap ((e : Int) - (i : Int)) = ((e - i : Nat) : Int) := by have := HEB.out; rw [i64_s _ (by omega) (by omega)]; omega
            have y2 : IntKind.i64.wrap ((b : Int) - (a : Int)) = ((b - a : Nat) : Int) := by have := HAB.out; rw [i64_s _ (by omega) (by omega)]; omega
            by_cases hg : b - a < e - i
            · have g1 : decide (((b - a : Nat) : Int) < ((e - i : Nat) : Int)) = true := decide_eq_true (by omega)
              have g2 : decide (b - a < e - i) = true := decide_eq_true hg
              have HN : Hid (lzN x (i + 1) = (i, e)) := by show _ = _; unfold lzN; rw [HAB.out.1, HAB.out.2.1, HZ.out, if_pos hg]
              go_wp2
              go_roundw
              case rel => exact ⟨i + 1, HLT.out, by simp, by rw [HN.out], by rw [HN.out], by first | rfl | trivial⟩
              case measure => have := HLT.out; simp [intOf]; omega
            · have g1 : decide (((b - a : Nat) : Int) < ((e - i : Nat) : Int)) = false := decide_eq_false (by omega)
              have g2 : decide (b - a < e - i) = false := decide_eq_false hg
              have HN : Hid ((lzN x (i + 1)).1 = a ∧ (lzN x (i + 1)).2 = b) := by show _ ∧ _; unfold lzN; rw [HAB.out.1, HAB.out.2.1, HZ.out, if_neg hg]; exact ⟨HAB.out.1, HAB.out.2.1⟩
              go_wp2
              go_roundw
              case rel => exact ⟨i + 1, HLT.out, by simp, by rw [HN.out.1], by rw [HN.out.2], by first | rfl | trivial⟩
              case measure => have := HLT.out; simp [intOf]; omega
        · have r1 : decide ((e : Int) < 8) = false := decide_eq_false (by omega)
          have r2 : decide (e < 8) = false := decide_eq_false hle
          have r3 : ¬ (e : Int) < 8 := by omega
          have HZ : Hid (zE x i = e) := by show _ = _; rw [← HE.out]; exact zE_end x (by omega)
          clear hle
          have y1 : IntKind.i64.wrap ((e : Int) - (i : Int)) = ((e - i : Nat) : Int) := by have := HEB.out; rw [i64_s _ (by omega) (by omega)]; omega
          have y2 : IntKind.i64.wrap ((b : Int) - (a : Int)) = ((b - a : Nat) : Int) := by have := HAB.out; rw [i64_s _ (by omega) (by omega)]; omega
          by_cases hg : b - a < e - i
          · have g1 : decide (((b - a : Nat) : Int) < ((e - i : Nat) : Int)) = true := decide_eq_true (by omega)
            have g2 : decide (b - a < e - i) = true := decide_eq_true hg
            have HN : Hid (lzN x (i + 1) = (i, e)) := by show _ = _; unfold lzN; rw [HAB.out.1, HAB.out.2.1, HZ.out, if_pos hg]
            go_wp2
            go_roundw
            case rel => exact ⟨i + 1, HLT.out, by simp, by rw [HN.out], by rw [HN.out], by first | rfl | trivial⟩
            case measure => have := HLT.out; simp [intOf]; omega
          · have g1 : decide (((b - a : Nat) : Int) < ((e - i : Nat) : Int)) = false := decide_eq_false (by omega)
            have g2 : decide (b - a < e - i) = false := decide_eq_false hg
            have HN : Hid ((lzN x (i + 1)).1 = a ∧ (lzN x (i + 1)).2 = b) := by show _ ∧ _; unfold lzN; rw [HAB.out.1, HAB.out.2.1, HZ.out, if_neg hg]; exact ⟨HAB.out.1, HAB.out.2.1⟩
            go_wp2
            go_roundw
            case rel => exact ⟨i + 1, HLT.out, by simp, by rw [HN.out.1], by rw [HN.out.2], by first | rfl | trivial⟩
            case measure => have := HLT.out; simp [intOf]; omega
    · have p1 : decide ((i : Int) < 8) = false := decide_eq_false (by omega)
      have p2 : decide (i < 8) = false := decide_eq_false hlt
      have p3 : ¬ (i : Int) < 8 := by omega
      have HE : Hid (i = 8) := by have := HI8.out; show i = 8; omega
      clear hlt
      go_wp2
      refine bodyPost_ret (results_tmp2 rfl _ _ _) rfl ?_
      exact ⟨by rw [← HAB.out.1, ← HAB.out.2.1, HE.out]; rfl, rfl⟩
end Go.Proofs.YteldiggaooeeeaaGreatDoor
namespace Go.Proofs.YteldiggaooeeeaaGreatDoor
open Go.RowKit Go.Maps

theorem yields_by4 {ops : Array Oper} {o : Oper} {a : Act} {S : World → Prop} (x : Operand) (ho : o.op = .load 5 x) (p : Addr) (u : Value) (hx : a.eval x = .pointer (some p)) (hw : Region.wanted o (yielded ops a.tmps) = true) (hS : ∀ w, S w → w.cell? p = some u) : YieldsIf Tryz.prog ops S o u a := by
  refine .inl ⟨hw, fun w hb => ?_⟩
  have hc := hS w hb
  have hu := Tryz.underlying5
  obtain ⟨dst, op, type, pos, after, guard⟩ := o
  simp only at ho
  subst ho
  simp only [execOp, Sem.run_bind, Sem.run_pure]
  rw [hx]
  go_simp
theorem jn_lib : ∀ L : List (List Nat), Lib.join ((L.map txB).map (·.data.toList)) (⟨#[58]⟩ : ByteArray).data.toList = (jn L).map UInt8.ofNat
  | [] => rfl
  | [a] => by simp [Lib.join, jn, txB_data, List.intercalate]
  | a :: b :: t => by
    have h := jn_lib (b :: t)
    rw [jn_two, List.map_append, List.map_cons (l := jn (b :: t)), ← h]
    simp [Lib.join, txB_data, List.intercalate]
theorem txB_app (A B : List Nat) : txB A ++ txB B = txB (A ++ B) := by
  apply ByteArray.ext
  simp [txB]
theorem yields_cat {ops : Array Oper} {S : World → Prop} {o : Oper} {a : Act} (X Y : Operand) (ho : o.op = .binOp .add 9 X Y 9) (A B : List Nat) (s : ByteArray) (hs : s = txB B) (hx : a.eval X = .string (txB A)) (hy : a.eval Y = .string s) (hw : Region.wanted o (yielded ops a.tmps) = true) (hl : A.length + B.length ≤ 1000) : YieldsIf Tryz.prog ops S o (.string (txB (A ++ B))) a := by
  refine .inl ⟨hw, fun w _ => ?_⟩
  have h1 := txB_size A
  have h2 := txB_size B
  have hc := txB_app A B
  subst hs
  obtain ⟨dst, op, type, pos, after, guard⟩ := o
  simp only at ho
  subst ho
  simp only [execOp, Sem.run_bind, hx, hy]
  go_simp
  omega
theorem wpList_cat {ops : Array Oper} {rest : List Oper} {o : Oper} {a : Act} {w : World} {Q : Exit → Act → World → Prop} (X Y : Operand) (ho : o.op = .binOp .add 9 X Y 9) (A B : List Nat) (s t : ByteArray) (ht : t = txB A) (hs : s = txB B) (hx : a.eval X = .string t) (hy : a.eval Y = .string s) (hw : Region.wanted o (yielded ops a.tmps) = true) (hl : A.length + B.length ≤ 1000)
    (h : wpList Tryz.prog ops Q rest (a.put o.dst (.string (txB (A ++ B)))) w) : wpList Tryz.prog ops Q (o :: rest) a w := by
  subst ht
  refine wpList_step fun K hK => ?_
  rw [if_pos hw]
  have hrun : (execOp a.eval o).run Tryz.prog w = .ok (.value (.string (txB (A ++ B)))) w := by
    have h1 := txB_size A
    have h2 := txB_size B
    have hc := txB_app A B
    subst hs
    obtain ⟨dst, op, type, pos, after, guard⟩ := o
    simp only at ho
    subst ho
    simp only [execOp, Sem.run_bind, hx, hy]
    go_simp
    omega
  unfold Oper.wp
  rw [hrun]
  exact hK _ _ h
/-- strings.Join of texts with a : between -/
theorem joinC_any (a : Option Addr) (n c : Nat) (L : List (List Nat)) (w : World) (hn : L.length = n) (h8 : n ≤ 8) (h4 : ∀ l ∈ L, l.length ≤ 4)
    (hm : 0 < n → ∃ g o, a = some ⟨g, o, none⟩ ∧ g < w.heap.size ∧ n ≤ c ∧ ∀ (j : Nat) l, L[j]? = some l → w.cell? ⟨g, o + j, none⟩ = some (.string (txB l))) :
    Calls Tryz.prog 39 #[.slice a n c, .string ⟨#[58]⟩] w fun r w' => r = .returned (.string (txB (jn L))) ∧ Below w.heap.size w w' := by
  by_cases h0 : n = 0
  · subst h0
    obtain rfl : L = [] := List.eq_nil_of_length_eq_zero hn
    refine (join_none a c ⟨#[58]⟩ w).mono ?_
    rintro e w' ⟨rfl, rfl⟩
    exact ⟨rfl, Below.refl _ _⟩
  · obtain ⟨g, o, rfl, hg, hc, hcell⟩ := hm (by omega)
    have hl : (L.map txB).length = n := by rw [List.length_map]; exact hn
    have hj := jn_max 4 L h4
    have hj2 : (jn L).length ≤ 40 := by omega
    have h := join_any g o c (L.map txB) ⟨#[58]⟩ w (fun j x hx => by
      rw [List.getElem?_map] at hx
      cases hL : L[j]? with
      | none => rw [hL] at hx; cases hx
      | some l => rw [hL] at hx; simp at hx; subst hx; exact hcell j l hL) hg (by omega) (by omega) (by rw [jn_lib, List.length_map]; omega)
    rw [hl] at h
    refine h.mono ?_
    rintro e w' ⟨rfl, hb⟩
    exact ⟨by rw [jn_lib]; rfl, hb⟩
theorem or_i64 (a b : Nat) (ha : a < 256) (hb : b < 256) : bits BinOp.or IntKind.i64 ((256 * a : Nat) : Int) (b : Int) = ((256 * a + b : Nat) : Int) := by
  have e1 : (BitVec.ofInt 64 ((256 * a : Nat) : Int)).toNat = 256 * a := by rw [BitVec.toNat_ofInt]; omega
  have e2 : (BitVec.ofInt 64 (b : Int)).toNat = b := by rw [BitVec.toNat_ofInt]; omega
  have key : (BitVec.ofInt 64 ((256 * a : Nat) : Int) ||| BitVec.ofInt 64 (b : Int)).toNat = 256 * a + b := by
    rw [BitVec.toNat_or, e1, e2]
    exact (Nat.two_pow_add_eq_or_of_lt (i := 8) hb a).symm
  show IntKind.i64.wrap ((BitVec.ofInt 64 ((256 * a : Nat) : Int) ||| BitVec.ofInt 64 (b : Int)).toNat : Nat) = _
  rw [key]
  exact i64_s _ (by omega) (by omega)
def gtL (x : Nat → Nat) (k : Nat) : List Value := (List.range k).map fun i => .string (gtX x i)
theorem gtL_succ (x : Nat → Nat) (i : Nat) : gtL x (i + 1) = gtL x i ++ [.string (gtX x i)] := by simp [gtL, List.range_succ]
theorem prG_flat {x : Nat → Nat} (h : (lzN x 8).2 - (lzN x 8).1 < 2) : prG x = jn ((List.range 8).map fun k => hexL (gx x k)) := by
  unfold prG
  rw [if_pos h, if_pos h]
  unfold txt
  rw [if_neg (by omega)]
  simp [gl, nT, tx, dl, List.map_map, List.range_eq_range']
  rfl
theorem prG_gap {x : Nat → Nat} (h : ¬ (lzN x 8).2 - (lzN x 8).1 < 2) : prG x = jn ((List.range' 0 (lzN x 8).1).map fun k => hexL (gx x k)) ++ [58, 58] ++ jn ((List.range' (lzN x 8).2 (8 - (lzN x 8).2)).map fun k => hexL (gx x k)) := by
  unfold prG
  rw [if_neg h, if_neg h]
  unfold txt
  rw [if_pos (by omega)]
  simp [gl, nT, tx, dl, List.map_map]
  rfl
theorem jn_short (x : Nat → Nat) (a n : Nat) (h : n ≤ 8) : (jn ((List.range' a n).map fun k => hexL (gx x k))).length ≤ 40 := by
  have h1 := jn_max 4 ((List.range' a n).map fun k => hexL (gx x k)) (fun l hl => by obtain ⟨k, _, rfl⟩ := List.mem_map.1 hl; exact hexL_hi _)
  simp only [List.length_map, List.length_range'] at h1
  omega
theorem gl_four (x : Nat → Nat) : ∀ l ∈ (List.range 8).map fun k => hexL (gx x k), l.length ≤ 4 := by
  intro l hl
  obtain ⟨k, _, rfl⟩ := List.mem_map.1 hl
  exact hexL_hi _
theorem gl_four' (x : Nat → Nat) (a n : Nat) : ∀ l ∈ (List.range' a n).map fun k => hexL (gx x k), l.length ≤ 4 := by
  intro l hl
  obtain ⟨k, _, rfl⟩ := List.mem_map.1 hl
  exact hexL_hi _
theorem gl_cell {x : Nat → Nat} {w : World} {g a n : Nat} (hc : ∀ i, i < 8 → w.cell? ⟨g, i, none⟩ = some (.string (gtX x i))) {j : Nat} {l : List Nat} (_h : 0 ≤ a) (hn : a + n ≤ 8) (hl : ((List.range' a n).map fun k => hexL (gx x k))[j]? = some l) : w.cell? ⟨g, a + j, none⟩ = some (.string (txB l)) := by
  rw [List.getElem?_map] at hl
  have hlt : j < n := by
    refine Nat.lt_of_not_le fun hge => ?_
    rw [List.getElem?_eq_none (by simp; omega)] at hl
    cases hl
  rw [List.getElem?_range' hlt] at hl
  simp at hl
  subst hl
  exact hc _ (by omega)
def AryAt (w : World) (O : Nat) (x : Nat → Nat) : Prop := w.heap[O]? = some (.cells (arCells x) 26 (0, 0))
theorem AryAt.below {w w' : World} {O : Nat} {x : Nat → Nat} (h : AryAt w O x) (c : Below w.heap.size w w') : AryAt w' O x := (c.block O (Array.getElem?_eq_some_iff.1 h).1).trans h
theorem arC_byte (x : Nat → Nat) (i : Nat) (hi : i < 16) : (arCells x)[i]? = some (.int .u8 (x i : Nat)) := by
  rcases lt16' hi with rfl | rfl | rfl | rfl | rfl | rfl | rfl | rfl | rfl | rfl | rfl | rfl | rfl | rfl | rfl | rfl <;> rfl
theorem AryAt.byte {w : World} {O : Nat} {x : Nat → Nat} (h : AryAt w O x) (i : Nat) (hi : i < 16) : w.cell? ⟨O, i, none⟩ = some (.int .u8 (x i : Nat)) := by
  unfold AryAt at h
  simp only [World.cell?, h]
  exact arC_byte x i hi
theorem AryAt.lt {w : World} {O : Nat} {x : Nat → Nat} (h : AryAt w O x) : O < w.heap.size := (Array.getElem?_eq_some_iff.1 h).1
theorem AryAt.grown {w w' : World} {O : Nat} {x : Nat → Nat} {r : Option Nat} (h : AryAt w O x) (g : w.grownBy w' r) (hr : ∀ q, r = some q → O < q) : AryAt w' O x := ((Ch.ofGrown g).block O h.lt (fun e => by have := hr O e; omega)).trans h
theorem gx_or {x : Nat → Nat} {j k : Nat} (hj : 2 * k = j) (h1 : x j < 256) (h2 : x (j + 1) < 256) : bits BinOp.or IntKind.i64 (wrap64 ((x j : Int) * 256)) (x (j + 1) : Int) = ((gx x k : Nat) : Int) := by
  have e : wrap64 ((x j : Int) * 256) = ((256 * x j : Nat) : Int) := by
    unfold wrap64
    omega
  rw [e, or_i64 _ _ h1 h2]
  unfold gx
  rw [hj]
theorem ar_new (w : World) (x : Nat → Nat) : AryAt (w.alloc (.cells (arCells x) 26)) w.heap.size x := heap_alloc_new _ _
set_option maxHeartbeats 1600000 in
set_option maxRecDepth 100000 in
theorem grouped_any (x : Nat → Nat) (w : World) (hx : ∀ i, i < 16 → x i < 256) (hd : Deb w) : Calls Tryz.prog 21 #[.agg (arCells x)] w fun r w' => r = .returned (.string (txB (prG x))) ∧ Below w.heap.size w w' := by
  obtain ⟨i0, hi, hz0, hz1, hz2⟩ := info_parts Tryz.infoStr
  have HI : Hid (Tryz.prog.info? 9 = some i0 ∧ i0.zero = some (.string ⟨#[]⟩) ∧ i0.size = 1 ∧ i0.bytes = 16) := ⟨hi, hz0, hz1, hz2⟩
  have HX : Hid (∀ i, i < 16 → x i < 256) := hx
  have HD : Hid (Deb w) := hd
  clear hi hz0 hz1 hz2 hx hd
  have hb := ar_new w x
  have bel : Below w.heap.size w (w.alloc (.cells (arCells x) 26)) := (Below.refl _ _).alloc (Nat.le_refl _) _
  obtain ⟨CX, hC⟩ : ∃ C, C = arCells x := ⟨_, rfl⟩
  obtain ⟨W, hW⟩ : ∃ W_, W_ = w.alloc (.cells (arCells x) 26) := ⟨_, rfl⟩
  rw [← hW] at hb bel
  have HSZX : Hid (W.heap.size = w.heap.size + 1) := by show _ = _; rw [hW, World.size_alloc]
  obtain ⟨B, hB⟩ : ∃ B, B = w.heap.size := ⟨_, rfl⟩
  rw [← hB] at hb
  have HBX : Hid (AryAt W B x) := hb
  rw [← hC] at hW ⊢
  have HOX : Hid (w.heap.size = B) := hB.symm
  have HLX : Hid (Below w.heap.size w W) := bel
  have HWX : Hid (w.alloc (.cells CX 26) = W) := hW.symm
  clear hb hW hB hC bel
  go_enter Tryz.func21, Tryz.ntmps21
  go_upto_region 1 with fail
  rw [HOX.out, HWX.out]
  have HWB : Hid (W.heap.size = B + 1) := by have h1 := HSZX.out; have h2 := HOX.out; show _ = _; omega
  have HLE : Hid (∀ A : World, AryAt A B x → B < A.heap.size) := fun A h => h.lt
  go_wp2
  go_loopw [3, 4] (fun lv iv wr => ∃ (k c : Nat) (a : Option Addr), k ≤ 8 ∧ iv = .int .i64 ((2 * k : Nat) : Int) ∧ lv = .slice a k c ∧ Hid (AryAt wr B x ∧ wr.ownsRow W.heap.size 9 1 (.slice a k c) k (gtL x k) ∧ Below w.heap.size w wr)) (fun _ iv _ => 16 - (intOf iv).toNat)
  case atStart => exact ⟨0, 0, none, by omega, rfl, rfl, HBX.out, World.ownsRow_nil _ _ _ _, HLX.out⟩
  case round =>
    obtain ⟨k, c, a, hk8, rfl, rfl, HO⟩ := hrel
    have HK8 : Hid (k ≤ 8) := hk8
    clear hk8
    obtain ⟨j, hj⟩ : ∃ j, 2 * k = j := ⟨_, rfl⟩
    have HJ : Hid (2 * k = j) := hj
    rw [hj]
    clear hj
    by_cases hlt : k < 8
    · have p1 : decide ((j : Int) < 16) = true := decide_eq_true (by have := HJ.out; omega)
      have p2 : decide (j < 16) = true := decide_eq_true (by have := HJ.out; omega)
      have p3 : (j : Int) < 16 := by have := HJ.out; omega
      have p4 : (0 : Int) ≤ (j : Int) := by omega
      have p5 : (0 : Int) ≤ (j : Int) + 1 := by omega
      have p6 : (j : Int) + 1 < 16 := by have := HJ.out; omega
      have x3 : IntKind.i64.wrap ((j : Int) + 1) = (j : Int) + 1 := i64_s _ (by omega) (by omega)
      have x4 : IntKind.i64.wrap ((j : Int) + 2) = (j : Int) + 2 := i64_s _ (by omega) (by omega)
      have x5 : IntKind.i64.wrap ((x j : Nat) : Int) = ((x j : Nat) : Int) := i64_s _ (by omega) (by have := HX.out j (by omega); omega)
      have x6 : IntKind.i64.wrap ((x (j + 1) : Nat) : Int) = ((x (j + 1) : Nat) : Int) := i64_s _ (by omega) (by have := HX.out (j + 1) (by omega); omega)
      have HLT : Hid (k < 8) := hlt
      have HOR : Hid (bits BinOp.or IntKind.i64 (wrap64 ((x j : Int) * 256)) (x (j + 1) : Int) = ((gx x k : Nat) : Int)) := gx_or HJ.out (HX.out j (by omega)) (HX.out (j + 1) (by omega))
      clear hlt
      go_upto_region 5 with fail
      refine MixH.start (fun A => AryAt A B x ∧ Below w.heap.size w A) (by kernel_rfl) ?_
      obtain ⟨wA, hwA⟩ : ∃ W_, W_ = wr.drew := ⟨_, rfl⟩
      have bdr : Below wr.heap.size wr wA := by rw [hwA]; exact (Below.refl _ _).drew
      have hS : AryAt wA B x ∧ Below w.heap.size w wA := ⟨HO.out.1.below bdr, HO.out.2.2.trans (bdr.mono HO.out.2.2.size)⟩
      have HRA : Hid (wA.ownsRow W.heap.size 9 1 (.slice a k c) k (gtL x k)) := (Ch.ofBelow (S := fun _ => False) bdr).owns HO.out.2.1 (fun _ _ h => h)
      rw [← hwA]
      clear hwA bdr
      refine MixH.takes [true, true, true, false, false, false, true, true, true] 10 (by kernel_rfl) (by kernel_rfl) (by decide) (by kernel_rfl) hS (fun K hK => ?_)
      simp only [Mix.pick]
      repeat (go_big_quiet_step (fail))
      refine wpQuiet_nil (hK _ ?_)
      clear hK K
      refine MixH.take 9 3 _ (.int .u8 (x j : Nat)) rfl (by kernel_rfl) (by kernel_rfl) (by kernel_rfl) (by kernel_rfl) (yields_by4 (.tmp 13) rfl ⟨B, j, none⟩ (.int .u8 (x j : Nat)) rfl rfl (fun A hA => hA.1.byte j (by omega))) hS (fun a' ha => ?_)
      simp only [Act.put, List.setIfInBounds_toArray, List.set_cons_succ, List.set_cons_zero] at ha
      subst ha
      refine MixH.takes [false, false, false, false, true, true] 7 (by kernel_rfl) (by kernel_rfl) (by decide) (by kernel_rfl) hS (fun K hK => ?_)
      simp only [Mix.pick]
      repeat (go_big_quiet_step (fail))
      refine wpQuiet_nil (hK _ ?_)
      clear hK K
      refine MixH.take 6 9 _ (.int .u8 (x (j + 1) : Nat)) rfl (by kernel_rfl) (by kernel_rfl) (by kernel_rfl) (by kernel_rfl) (yields_by4 (.tmp 19) rfl ⟨B, j + 1, none⟩ (.int .u8 (x (j + 1) : Nat)) rfl rfl (fun A hA => hA.1.byte (j + 1) (by omega))) hS (fun a' ha => ?_)
      simp only [Act.put, List.setIfInBounds_toArray, List.set_cons_succ, List.set_cons_zero] at ha
      subst ha
      refine MixH.takes [false, false, false, false, false, false, false, false, false, false, true, true] 4 (by kernel_rfl) (by kernel_rfl) (by decide) (by kernel_rfl) hS (fun K hK => ?_)
      simp only [Mix.pick]
      repeat (go_big_quiet_step (fail))
      refine wpQuiet_nil (hK _ ?_)
      clear hK K
      refine MixH.one [false, false, false, false, false, false, false, false, false, false, false, false, true] 3 12 _ rfl rfl (by kernel_rfl) (by kernel_rfl) (fun K hK => ?_)
      simp only [Mix.pick]
      go_wp2_with fail
      rw [HOR.out]
      refine Calls.mono (fmt_any (gx x k) wA (gx_lt HX.out HLT.out) (HD.out.below hS.2)) ?_
      rintro e w1 ⟨rfl, hb⟩
      have hS : AryAt w1 B x ∧ Below w.heap.size w w1 := ⟨hS.1.below hb, hS.2.trans (hb.mono hS.2.size)⟩
      have HR1 : Hid (w1.ownsRow W.heap.size 9 1 (.slice a k c) k (gtL x k)) := (Ch.ofBelow (S := fun _ => False) hb).owns HRA.out (fun _ _ h => h)
      clear hb
      go_wp2_with fail
      refine ⟨rfl, hK _ _ hS ?_⟩
      clear hK K
      refine MixH.one [false, false, false, false, false, false, false, false, false, false, false, false, false, true] 2 13 _ rfl rfl (by kernel_rfl) (by kernel_rfl) (fun K hK => ?_)
      simp only [Mix.pick]
      go_wp2_with fail
      obtain ⟨w2, hw2⟩ : ∃ W_, W_ = w1.alloc (.cells #[.string (txB (hexL (gx x k)))] 9) := ⟨_, rfl⟩
      have b2 : Below w1.heap.size w1 w2 := by rw [hw2]; exact (Below.refl _ _).alloc (Nat.le_refl _) _
      have HC2 : Hid (∀ j u, [Value.string (txB (hexL (gx x k)))][j]? = some u → w2.cell? ((⟨w1.heap.size, 0, none⟩ : Addr).add j) = some u) := by rw [hw2]; exact cellsOne w1 _ _
      have HZ2 : Hid (W.heap.size ≤ w1.heap.size ∧ w1.heap.size < w2.heap.size) := ⟨by have h1 := HWB.out; have h2 := hS.2.size; have h3 := HLE.out w1 hS.1; omega, by rw [hw2, World.size_alloc]; omega⟩
      have hS : AryAt w2 B x ∧ Below w.heap.size w w2 := ⟨hS.1.below b2, hS.2.trans (b2.mono hS.2.size)⟩
      have HR2 : Hid (w2.ownsRow W.heap.size 9 1 (.slice a k c) k (gtL x k)) := (Ch.ofBelow (S := fun _ => False) b2).owns HR1.out (fun _ _ h => h)
      rw [← hw2]
      clear hw2 b2
      refine ⟨rfl, hK _ _ hS ?_⟩
      clear hK K
      refine MixH.one [false, false, false, false, false, false, false, false, false, false, false, false, false, false, true] 1 14 _ rfl rfl (by kernel_rfl) (by kernel_rfl) (fun K hK => ?_)
      simp only [Mix.pick]
      go_wp2_with (at_builtin; refine wpList_append_own_at _ rfl (.tmp 11) (.tmp 24) 78 rfl W.heap.size 9 i0 (.string ⟨#[]⟩) 1 16 Tryz.underlying78 HI.out.1 HI.out.2.1 HI.out.2.2.1 HI.out.2.2.2 rfl (by decide) _ _ _ rfl HR2.out ⟨w1.heap.size, 0, none⟩ 1 1 [.string (txB (hexL (gx x k)))] rfl rfl HC2.out (by intro u hu; simp at hu; subst hu; rfl) (by have := HLT.out; unfold maxLen; omega) (by have := HLT.out; omega) (by have := HZ2.out; omega) ?_)
      intro v2 w3 ho2 hg2 _ _
      obtain ⟨a3, c3, rfl⟩ := owns_shape ho2
      have hS : AryAt w3 B x ∧ Below w.heap.size w w3 := ⟨AryAt.grown hS.1 hg2 (fun q hq => by have h1 := (HR2.out.lt q hq).1; have h2 := HWB.out; omega), hS.2.grown hg2 (by have h1 := hS.2.size; omega) (fun q hq => by have h1 := (HR2.out.lt q hq).1; have h2 := HLX.out.size; omega)⟩
      have H3 : Hid (AryAt w3 B x ∧ w3.ownsRow W.heap.size 9 1 (.slice a3 (k + 1) c3) (k + 1) (gtL x (k + 1)) ∧ Below w.heap.size w w3) := ⟨hS.1, by rw [gtL_succ]; exact ho2, hS.2⟩
      clear ho2 hg2
      refine ⟨rfl, hK _ _ hS ?_⟩
      clear hK K
      refine MixH.takes [false, false, false, false, false, false, false, false, false, false, false, false, false, false, false, true] 0 (by kernel_rfl) (by kernel_rfl) (by decide) (by kernel_rfl) hS (fun K hK => ?_)
      simp only [Mix.pick]
      repeat (go_big_quiet_step (fail))
      refine wpQuiet_nil (hK _ ?_)
      clear hK K
      refine MixH.done (by kernel_rfl) ?_
      clear hS
      go_wp2
      go_roundw
      case rel => exact ⟨k + 1, c3, a3, HLT.out, by rw [← HJ.out]; simp; omega, rfl, H3.out⟩
      case measure => have h1 := HLT.out; have h2 := HJ.out; simp [intOf]; omega
    · have HE : Hid (k = 8) := by have := HK8.out; show k = 8; omega
      have p1 : decide ((j : Int) < 16) = false := decide_eq_false (by have := HJ.out; omega)
      have p2 : decide (j < 16) = false := decide_eq_false (by have := HJ.out; omega)
      have p3 : ¬ (j : Int) < 16 := by have := HJ.out; omega
      clear hlt
      obtain rfl := HE.out
      obtain ⟨g, rfl, hcap, hgb, hglt⟩ := own_some HO.out.2.1 (by decide)
      have HCELL : Hid (∀ i, i < 8 → wr.cell? ⟨g, i, none⟩ = some (.string (gtX x i))) := by
        intro i hi
        rw [HO.out.2.1.cellAt i (by omega)]
        simp [gtL, hi]
      have HG : Hid (g < wr.heap.size ∧ 8 ≤ c) := ⟨hglt, hcap⟩
      have HBEL : Hid (Below w.heap.size w wr) := HO.out.2.2
      clear HE HO HK8 hcap hglt hgb
      go_wp2_with fail
      refine (lz_any x g c wr HX.out HCELL.out).mono ?_
      rintro e wz ⟨rfl, rfl⟩
      obtain ⟨fr, hfr⟩ : ∃ fr, (lzN x 8).1 = fr := ⟨_, rfl⟩
      obtain ⟨tq, hto⟩ : ∃ tq, (lzN x 8).2 = tq := ⟨_, rfl⟩
      have HLZ : Hid ((lzN x 8).1 = fr ∧ (lzN x 8).2 = tq ∧ fr ≤ tq ∧ tq ≤ 8) := by have h := lzN_at x 8 (Nat.le_refl _); rw [hfr, hto] at h; exact ⟨hfr, hto, h.1, h.2.1⟩
      rw [hfr, hto]
      clear hfr hto
      have y1 : IntKind.i64.wrap ((tq : Int) - (fr : Int)) = ((tq - fr : Nat) : Int) := by have := HLZ.out; rw [i64_s _ (by omega) (by omega)]; omega
      by_cases h2 : tq - fr < 2
      · have g1 : decide (((tq - fr : Nat) : Int) < 2) = true := decide_eq_true (by omega)
        have g2 : decide (tq - fr < 2) = true := decide_eq_true h2
        have g3 : ((tq - fr : Nat) : Int) < 2 := by omega
        have HP : Hid (prG x = jn ((List.range 8).map fun k => hexL (gx x k))) := prG_flat (by rw [HLZ.out.1, HLZ.out.2.1]; exact h2)
        clear h2
        go_wp2_with fail
        refine (joinC_any (some ⟨g, 0, none⟩) 8 c ((List.range 8).map fun k => hexL (gx x k)) wr rfl (by decide) (gl_four x) (fun _ => ⟨g, 0, rfl, HG.out.1, HG.out.2, fun j l hl => gl_cell (a := 0) (n := 8) HCELL.out (Nat.zero_le _) (by omega) (by rw [← List.range_eq_range']; exact hl)⟩)).mono ?_
        rintro e w4 ⟨rfl, hb⟩
        have H4 : Hid (Below w.heap.size w w4) := HBEL.out.trans (hb.mono HBEL.out.size)
        clear hb
        rw [← HP.out]
        go_wp2
        go_ret
        exact ⟨rfl, H4.out⟩
      · have g1 : decide (((tq - fr : Nat) : Int) < 2) = false := decide_eq_false (by omega)
        have g2 : decide (tq - fr < 2) = false := decide_eq_false h2
        have g3 : ¬ ((tq - fr : Nat) : Int) < 2 := by omega
        have b1 : (0 : Int) ≤ (fr : Int) := by omega
        have b2 : (fr : Int) ≤ (c : Int) := by have := HLZ.out; have := HG.out; omega
        have b3 : (0 : Int) ≤ (tq : Int) := by omega
        have b4 : (tq : Int) ≤ 8 := by have := HLZ.out; omega
        have HP : Hid (prG x = jn ((List.range' 0 fr).map fun k => hexL (gx x k)) ++ [58, 58] ++ jn ((List.range' tq (8 - tq)).map fun k => hexL (gx x k))) := by have h := prG_gap (x := x) (by rw [HLZ.out.1, HLZ.out.2.1]; exact h2); rw [HLZ.out.1, HLZ.out.2.1] at h; exact h
        clear h2
        have HCB : Hid (∀ A : World, Below wr.heap.size wr A → ∀ i, i < 8 → A.cell? ⟨g, i, none⟩ = some (.string (gtX x i))) := fun A h i hi => (h.cell HG.out.1).trans (HCELL.out i hi)
        by_cases hct : c = tq
        · subst hct
          have HT8 : Hid (c = 8) := by have h1 := HLZ.out; have h2 := HG.out; show _ = _; omega
          go_upto_region 9 with fail
          refine MixH.start (fun A => Below wr.heap.size wr A) (by kernel_rfl) ?_
          obtain ⟨wA, hwA⟩ : ∃ W_, W_ = wr.drew := ⟨_, rfl⟩
          have bdr : Below wr.heap.size wr wA := by rw [hwA]; exact (Below.refl _ _).drew
          have hS : Below wr.heap.size wr wA := bdr
          rw [← hwA]
          clear hwA bdr
          refine MixH.takes [true, true, true, false, false, true, true, true] 5 (by kernel_rfl) (by kernel_rfl) (by decide) (by kernel_rfl) hS (fun K hK => ?_)
          simp only [Mix.pick]
          repeat (go_big_quiet_step (fail))
          refine wpQuiet_nil (hK _ ?_)
          clear hK K
          refine MixH.one [false, false, false, true] 4 3 _ rfl rfl (by kernel_rfl) (by kernel_rfl) (fun K hK => ?_)
          simp only [Mix.pick]
          go_wp2_with fail
          refine Calls.mono (joinC_any (some ⟨g, 0, none⟩) (fr) (c) ((List.range' 0 (fr)).map fun k => hexL (gx x k)) wA (by simp) (by have := HLZ.out; omega) (gl_four' x _ _) (fun hpos => ⟨g, 0, rfl, Nat.lt_of_lt_of_le HG.out.1 hS.size, by have := HLZ.out; have := HG.out; omega, fun j l hl => gl_cell (HCB.out wA hS) (Nat.zero_le _) (by have := HLZ.out; omega) hl⟩)) ?_
          rintro e w5 ⟨rfl, hb⟩
          have hS : Below wr.heap.size wr w5 := hS.trans (hb.mono hS.size)
          clear hb
          go_wp2_with fail
          refine ⟨rfl, hK _ _ hS ?_⟩
          clear hK K
          refine MixH.take 3 4 _ (.string (txB (jn ((List.range' 0 fr).map fun k => hexL (gx x k)) ++ [58, 58]))) rfl (by kernel_rfl) (by kernel_rfl) (by kernel_rfl) (by kernel_rfl) (yields_cat (.tmp 40) (.const (.string ⟨#[58, 58]⟩)) rfl (jn ((List.range' 0 fr).map fun k => hexL (gx x k))) [58, 58] ⟨#[58, 58]⟩ rfl rfl rfl rfl (by have h1 := jn_short x 0 fr (by have := HLZ.out; omega); have h2 := jn_short x c (8 - c) (by omega); simp only [List.length_cons, List.length_nil]; omega)) hS (fun a' ha => ?_)
          simp only [Act.put, List.setIfInBounds_toArray, List.set_cons_succ, List.set_cons_zero] at ha
          subst ha
          refine MixH.one [false, false, false, false, false, false, false, false, true] 2 8 _ rfl rfl (by kernel_rfl) (by kernel_rfl) (fun K hK => ?_)
          simp only [Mix.pick]
          go_wp2_with fail
          refine Calls.mono (joinC_any (some ⟨g, 0, none⟩) (8 - c) (0) ((List.range' c (8 - c)).map fun k => hexL (gx x k)) w5 (by simp) (by have := HLZ.out; omega) (gl_four' x _ _) (fun hpos => by exfalso; have := HT8.out; omega)) ?_
          rintro e w6 ⟨rfl, hb⟩
          have hS : Below wr.heap.size wr w6 := hS.trans (hb.mono hS.size)
          clear hb
          go_wp2_with fail
          refine ⟨rfl, hK _ _ hS ?_⟩
          clear hK K
          refine MixH.take 1 9 _ (.string (txB (jn ((List.range' 0 fr).map fun k => hexL (gx x k)) ++ [58, 58] ++ jn ((List.range' c (8 - c)).map fun k => hexL (gx x k))))) rfl (by kernel_rfl) (by kernel_rfl) (by kernel_rfl) (by kernel_rfl) (yields_cat (.tmp 41) (.tmp 45) rfl (jn ((List.range' 0 fr).map fun k => hexL (gx x k)) ++ [58, 58]) (jn ((List.range' c (8 - c)).map fun k => hexL (gx x k))) _ rfl rfl rfl rfl (by have h1 := jn_short x 0 fr (by have := HLZ.out; omega); have h2 := jn_short x c (8 - c) (by omega); simp only [List.length_append, List.length_cons, List.length_nil]; omega)) hS (fun a' ha => ?_)
          simp only [Act.put, List.setIfInBounds_toArray, List.set_cons_succ, List.set_cons_zero] at ha
          subst ha
          refine MixH.takes [false, false, false, false, false, false, false, false, false, false, true] 0 (by kernel_rfl) (by kernel_rfl) (by decide) (by kernel_rfl) hS (fun K hK => ?_)
          simp only [Mix.pick]
          repeat (go_big_quiet_step (fail))
          refine wpQuiet_nil (hK _ ?_)
          clear hK K
          refine MixH.done (by kernel_rfl) ?_
          have H6 : Hid (Below w.heap.size w w6) := HBEL.out.trans (hS.mono HBEL.out.size)
          clear hS
          go_wp2
          go_ret
          exact ⟨by rw [HP.out]; rfl, H6.out⟩
        · have HCT : Hid (tq < c) := by have h1 := HLZ.out; have h2 := HG.out; show _ < _; omega
          go_upto_region 9 with fail
          refine MixH.start (fun A => Below wr.heap.size wr A) (by kernel_rfl) ?_
          obtain ⟨wA, hwA⟩ : ∃ W_, W_ = wr.drew := ⟨_, rfl⟩
          have bdr : Below wr.heap.size wr wA := by rw [hwA]; exact (Below.refl _ _).drew
          have hS : Below wr.heap.size wr wA := bdr
          rw [← hwA]
          clear hwA bdr
          refine MixH.takes [true, true, true, false, false, true, true, true] 5 (by kernel_rfl) (by kernel_rfl) (by decide) (by kernel_rfl) hS (fun K hK => ?_)
          simp only [Mix.pick]
          repeat (go_big_quiet_step (fail))
          refine wpQuiet_nil (hK _ ?_)
          clear hK K
          refine MixH.one [false, false, false, true] 4 3 _ rfl rfl (by kernel_rfl) (by kernel_rfl) (fun K hK => ?_)
          simp only [Mix.pick]
          go_wp2_with fail
          refine Calls.mono (joinC_any (some ⟨g, 0, none⟩) (fr) (c) ((List.range' 0 (fr)).map fun k => hexL (gx x k)) wA (by simp) (by have := HLZ.out; omega) (gl_four' x _ _) (fun hpos => ⟨g, 0, rfl, Nat.lt_of_lt_of_le HG.out.1 hS.size, by have := HLZ.out; have := HG.out; omega, fun j l hl => gl_cell (HCB.out wA hS) (Nat.zero_le _) (by have := HLZ.out; omega) hl⟩)) ?_
          rintro e w5 ⟨rfl, hb⟩
          have hS : Below wr.heap.size wr w5 := hS.trans (hb.mono hS.size)
          clear hb
          go_wp2_with fail
          refine ⟨rfl, hK _ _ hS ?_⟩
          clear hK K
          refine MixH.take 3 4 _ (.string (txB (jn ((List.range' 0 fr).map fun k => hexL (gx x k)) ++ [58, 58]))) rfl (by kernel_rfl) (by kernel_rfl) (by kernel_rfl) (by kernel_rfl) (yields_cat (.tmp 40) (.const (.string ⟨#[58, 58]⟩)) rfl (jn ((List.range' 0 fr).map fun k => hexL (gx x k))) [58, 58] ⟨#[58, 58]⟩ rfl rfl rfl rfl (by have h1 := jn_short x 0 fr (by have := HLZ.out; omega); have h2 := jn_short x tq (8 - tq) (by omega); simp only [List.length_cons, List.length_nil]; omega)) hS (fun a' ha => ?_)
          simp only [Act.put, List.setIfInBounds_toArray, List.set_cons_succ, List.set_cons_zero] at ha
          subst ha
          refine MixH.one [false, false, false, false, false, false, false, false, true] 2 8 _ rfl rfl (by kernel_rfl) (by kernel_rfl) (fun K hK => ?_)
          simp only [Mix.pick]
          go_wp2_with fail
          refine Calls.mono (joinC_any (some ⟨g, tq, none⟩) (8 - tq) (c - tq) ((List.range' tq (8 - tq)).map fun k => hexL (gx x k)) w5 (by simp) (by have := HLZ.out; omega) (gl_four' x _ _) (fun hpos => ⟨g, tq, rfl, Nat.lt_of_lt_of_le HG.out.1 hS.size, by have := HLZ.out; have := HG.out; omega, fun j l hl => gl_cell (HCB.out w5 hS) (Nat.zero_le _) (by have := HLZ.out; omega) hl⟩)) ?_
          rintro e w6 ⟨rfl, hb⟩
          have hS : Below wr.heap.size wr w6 := hS.trans (hb.mono hS.size)
          clear hb
          go_wp2_with fail
          refine ⟨rfl, hK _ _ hS ?_⟩
          clear hK K
          refine MixH.take 1 9 _ (.string (txB (jn ((List.range' 0 fr).map fun k => hexL (gx x k)) ++ [58, 58] ++ jn ((List.range' tq (8 - tq)).map fun k => hexL (gx x k))))) rfl (by kernel_rfl) (by kernel_rfl) (by kernel_rfl) (by kernel_rfl) (yields_cat (.tmp 41) (.tmp 45) rfl (jn ((List.range' 0 fr).map fun k => hexL (gx x k)) ++ [58, 58]) (jn ((List.range' tq (8 - tq)).map fun k => hexL (gx x k))) _ rfl rfl rfl rfl (by have h1 := jn_short x 0 fr (by have := HLZ.out; omega); have h2 := jn_short x tq (8 - tq) (by omega); simp only [List.length_append, List.length_cons, List.length_nil]; omega)) hS (fun a' ha => ?_)
          simp only [Act.put, List.setIfInBounds_toArray, List.set_cons_succ, List.set_cons_zero] at ha
          subst ha
          refine MixH.takes [false, false, false, false, false, false, false, false, false, false, true] 0 (by kernel_rfl) (by kernel_rfl) (by decide) (by kernel_rfl) hS (fun K hK => ?_)
          simp only [Mix.pick]
          repeat (go_big_quiet_step (fail))
          refine wpQuiet_nil (hK _ ?_)
          clear hK K
          refine MixH.done (by kernel_rfl) ?_
          have H6 : Hid (Below w.heap.size w w6) := HBEL.out.trans (hS.mono HBEL.out.size)
          clear hS
          go_wp2
          go_ret
          exact ⟨by rw [HP.out]; rfl, H6.out⟩
end Go.Proofs.YteldiggaooeeeaaGreatDoor
namespace Go.Proofs.YteldiggaooeeeaaGreatDoor
open Go.RowKit Go.Maps

theorem wpList_eql_arb {ops : Array Oper} {rest : List Oper} {o : Oper} {a : Act} {w : World} {Q : Exit → Act → World → Prop} (X Y : Operand) (ho : o.op = .binOp .eql 26 X Y 26) (x y : Nat → Nat) (hx : a.eval X = .agg (arCells x)) (hy : a.eval Y = .agg (arCells y)) (b : Bool) (hbb : same16 x y = b) (hw : Region.wanted o (yielded ops a.tmps) = true)
    (h : wpList Tryz.prog ops Q rest (a.put o.dst (.bool b)) w) : wpList Tryz.prog ops Q (o :: rest) a w := by
  refine wpList_step fun K hK => ?_
  rw [if_pos hw]
  have hrun : (execOp a.eval o).run Tryz.prog w = .ok (.value (.bool b)) w := by
    subst hbb
    obtain ⟨dst, op, type, pos, after, guard⟩ := o
    simp only at ho
    subst ho
    simp only [execOp, Sem.run_bind, Sem.run_pure, hx, hy, run_eqGuard_agg w .eql 26 _ _ _ _ Tryz.arGuard, Result.andThen_ok, run_eql_struct, eq16 x y w 9998]
  unfold Oper.wp
  rw [hrun]
  exact hK _ _ h
/-- PrintIP's answer -/
def prO (V : Int) (x : Nat → Nat) : Value := if vld V x then .tuple #[.string (txB (prIP V x)), .int .i64 0] else .tuple #[.string ⟨#[]⟩, .int .i64 40]
theorem prO_no {V : Int} {x : Nat → Nat} (h : vld V x = false) : prO V x = .tuple #[.string ⟨#[]⟩, .int .i64 40] := by unfold prO; rw [h]; rfl
theorem prO_yes {V : Int} {x : Nat → Nat} (h : vld V x = true) : prO V x = .tuple #[.string (txB (prIP V x)), .int .i64 0] := by unfold prO; rw [h]; rfl
def mpY (i : Nat) : Nat := if i = 10 ∨ i = 11 then 255 else 0
set_option maxHeartbeats 1600000 in
set_option maxRecDepth 100000 in
theorem printIP_any (V : Int) (x : Nat → Nat) (w : World) (hx : ∀ i, i < 16 → x i < 256) (hT : Gl4 w) : Calls Tryz.prog 10 #[.agg (ipCells V x)] w fun r w' => r = .returned (prO V x) ∧ Below w.heap.size w w' := by
  by_cases h4 : V = 4 ∧ vld V x = true
  · obtain ⟨rfl, hv⟩ := h4
    refine (print4_any x w hx hv hT.p).mono ?_
    rintro e w' ⟨rfl, hb⟩
    exact ⟨by rw [prO_yes hv]; rfl, hb⟩
  have HX : Hid (∀ i, i < 16 → x i < 256) := hx
  have HT : Hid (Gl4 w) := hT
  have H4 : Hid (¬ (V = 4 ∧ vld V x = true)) := h4
  obtain ⟨b, hb⟩ : ∃ b, vld V x = b := ⟨_, rfl⟩
  have HV : Hid (vld V x = b) := hb
  clear hx hT h4 hb
  have hb := ipr_new w V x
  have bel : Below w.heap.size w (w.alloc (.cells (ipCells V x) 28)) := (Below.refl _ _).alloc (Nat.le_refl _) _
  obtain ⟨CX, hC⟩ : ∃ C, C = ipCells V x := ⟨_, rfl⟩
  obtain ⟨W, hW⟩ : ∃ W_, W_ = w.alloc (.cells (ipCells V x) 28) := ⟨_, rfl⟩
  rw [← hW] at hb bel
  have HSZX : Hid (W.heap.size = w.heap.size + 1) := by show _ = _; rw [hW, World.size_alloc]
  obtain ⟨B, hB⟩ : ∃ B, B = w.heap.size := ⟨_, rfl⟩
  rw [← hB] at hb
  have HBX : Hid (IprAt W B V x) := hb
  rw [← hC] at hW ⊢
  have HOX : Hid (w.heap.size = B) := hB.symm
  have HLX : Hid (Below w.heap.size w W) := bel
  have HWX : Hid (w.alloc (.cells CX 28) = W) := hW.symm
  clear hb hW hB hC bel
  go_enter Tryz.func10, Tryz.ntmps10
  go_upto_region 1 with fail
  rw [HOX.out, HWX.out]
  go_wp2_with (refine wpList_load_ipr (.tmp 1) rfl B V x rfl HBX.out rfl ?_)
  refine (valid_any V x W HX.out).mono ?_
  rintro e w1 ⟨rfl, hb1⟩
  rw [HV.out]
  have H1 : Hid (IprAt w1 B V x ∧ Below w.heap.size w w1) := ⟨HBX.out.below hb1, HLX.out.trans (hb1.mono HLX.out.size)⟩
  clear hb1
  cases b with
  | false =>
    go_wp2
    refine bodyPost_ret (results_tmp2 rfl _ _ _) rfl ?_
    exact ⟨by rw [prO_no HV.out]; rfl, H1.out.2⟩
  | true =>
    have hn4 : V ≠ 4 := fun e => H4.out ⟨e, HV.out⟩
    obtain rfl : V = 6 := vld_six hn4 HV.out
    have k0 : w1.cell? ⟨B, 0, none⟩ = some (.int .i64 6) := H1.out.1.cell 0
    obtain ⟨m, hm⟩ : ∃ m, mpB x = m := ⟨_, rfl⟩
    have HM : Hid (mpB x = m ∧ same16 (hdA x 96) mpY = m) := ⟨hm, hm⟩
    clear hn4 hm
    go_wp2_with (refine wpList_load_ar (.tmp 13) rfl B 1 x rfl H1.out.1.ar rfl ?_)
    refine (head_any x 96 w1 (by decide) HX.out).mono ?_
    rintro e w2 ⟨rfl, hb2⟩
    have H2 : Hid (IprAt w2 B 6 x ∧ Below w.heap.size w w2) := ⟨H1.out.1.below hb2, H1.out.2.trans (hb2.mono H1.out.2.size)⟩
    clear hb2 k0
    cases m with
    | true =>
      have HPR : Hid (prIP 6 x = [58, 58, 102, 102, 102, 102, 58] ++ dots (x 12) (x 13) (x 14) (x 15)) := by show _ = _; unfold prIP; rw [if_neg (by decide), HM.out.1, if_pos rfl]
      have al : Tryz.prog.arrayLen 26 = 16 := by kernel_rfl
      go_wp2_with (refine wpList_eql_arb (.tmp 15) (.tmp 16) rfl (hdA x 96) mpY rfl rfl true HM.out.2 rfl ?_)
      refine (dotted_any' B 13 4 (fun i => x (12 + i)) w2 (fun i hi => HX.out _ (by omega)) (fun i hi => by have := H2.out.1.byte (12 + i) (by omega); rwa [show 1 + (12 + i) = 13 + i by omega] at this) (HT.out.p.below H2.out.2)).mono ?_
      rintro e w3 ⟨rfl, hb3⟩
      have H3 : Hid (Below w.heap.size w w3) := H2.out.2.trans (hb3.mono H2.out.2.size)
      clear hb3 al
      go_wp2_with (refine wpList_cat (.const (.string ⟨#[58, 58, 102, 102, 102, 102, 58]⟩)) (.tmp 20) rfl [58, 58, 102, 102, 102, 102, 58] (dots (x 12) (x 13) (x 14) (x 15)) _ _ rfl rfl rfl rfl rfl (by have := dots_hi (x 12) (x 13) (x 14) (x 15); simp; omega) ?_)
      refine bodyPost_ret (results_tmp2 rfl _ _ _) rfl ?_
      exact ⟨by rw [prO_yes HV.out, HPR.out]; rfl, H3.out⟩
    | false =>
      have HPR : Hid (prIP 6 x = prG x) := by show _ = _; unfold prIP; rw [if_neg (by decide), HM.out.1, if_neg (by decide)]
      go_wp2_with (first | (refine wpList_eql_arb (.tmp 15) (.tmp 16) rfl (hdA x 96) mpY rfl rfl false HM.out.2 rfl ?_) | (refine wpList_load_ar (.tmp 22) rfl B 1 x rfl H2.out.1.ar rfl ?_))
      refine (grouped_any x w2 HX.out (HT.out.d.below H2.out.2)).mono ?_
      rintro e w3 ⟨rfl, hb3⟩
      have H3 : Hid (Below w.heap.size w w3) := H2.out.2.trans (hb3.mono H2.out.2.size)
      clear hb3
      go_wp2
      refine bodyPost_ret (results_tmp2 rfl _ _ _) rfl ?_
      exact ⟨by rw [prO_yes HV.out, HPR.out]; rfl, H3.out⟩
/-- the text of a prefix -/
def prPF (p : PV) : List Nat := prIP p.V p.x ++ 47 :: dec3 p.n.toNat
def pfO (p : PV) : Value := if vpE p = 0 then .tuple #[.string (txB (prPF p)), .int .i64 0] else .tuple #[.string ⟨#[]⟩, .int .i64 (vpE p : Nat)]
theorem pfO_no {p : PV} (h : vpE p ≠ 0) : pfO p = .tuple #[.string ⟨#[]⟩, .int .i64 (vpE p : Nat)] := by unfold pfO; rw [if_neg h]
theorem pfO_yes {p : PV} (h : vpE p = 0) : pfO p = .tuple #[.string (txB (prPF p)), .int .i64 0] := by unfold pfO; rw [if_pos h]
theorem vp_vld {p : PV} (h : vpE p = 0) : vld p.V p.x = true := by
  have hm : mkE p.V p.x p.n = 0 := by
    unfold vpE at h
    split at h
    · assumption
    · exact h
  unfold mkE at hm
  split at hm
  · omega
  · rename_i h1; simpa using h1
theorem prIP_short (V : Int) (x : Nat → Nat) : (prIP V x).length ≤ 90 := by
  unfold prIP
  split
  · have := dots_hi (x 0) (x 1) (x 2) (x 3); omega
  · split
    · have := dots_hi (x 12) (x 13) (x 14) (x 15); simp; omega
    · by_cases h : (lzN x 8).2 - (lzN x 8).1 < 2
      · rw [prG_flat h]
        have h1 := jn_short x 0 8 (by omega)
        rw [← List.range_eq_range'] at h1
        omega
      · rw [prG_gap h]
        have h0 := lzN_at x 8 (Nat.le_refl _)
        have h1 := jn_short x 0 (lzN x 8).1 (by omega)
        have h2 := jn_short x (lzN x 8).2 (8 - (lzN x 8).2) (by omega)
        simp only [List.length_append, List.length_cons, List.length_nil]
        omega
set_option maxHeartbeats 1600000 in
set_option maxRecDepth 100000 in
theorem printPfx_any (p : PV) (w : World) (hx : ∀ i, i < 16 → p.x i < 256) (hT : Gl4 w) : Calls Tryz.prog 48 #[.agg (pfC p)] w fun r w' => r = .returned (pfO p) ∧ Below w.heap.size w w' := by
  have HX : Hid (∀ i, i < 16 → p.x i < 256) := hx
  have HT : Hid (Gl4 w) := hT
  clear hx hT
  have hb := pfx_new w p
  have bel : Below w.heap.size w (w.alloc (.cells (pfC p) 38)) := (Below.refl _ _).alloc (Nat.le_refl _) _
  obtain ⟨CX, hC⟩ : ∃ C, C = pfC p := ⟨_, rfl⟩
  obtain ⟨W, hW⟩ : ∃ W_, W_ = w.alloc (.cells (pfC p) 38) := ⟨_, rfl⟩
  rw [← hW] at hb bel
  have HSZX : Hid (W.heap.size = w.heap.size + 1) := by show _ = _; rw [hW, World.size_alloc]
  obtain ⟨B, hB⟩ : ∃ B, B = w.heap.size := ⟨_, rfl⟩
  rw [← hB] at hb
  have HBX : Hid (PfxAt W B p) := hb
  rw [← hC] at hW ⊢
  have HOX : Hid (w.heap.size = B) := hB.symm
  have HLX : Hid (Below w.heap.size w W) := bel
  have HWX : Hid (w.alloc (.cells CX 38) = W) := hW.symm
  clear hb hW hB hC bel
  go_enter Tryz.func48, Tryz.ntmps48
  go_upto_region 1 with fail
  rw [HOX.out, HWX.out]
  go_wp2_with (refine wpList_load_pfx (.tmp 1) rfl B p rfl HBX.out rfl ?_)
  refine (vpref_any p W HX.out).mono ?_
  rintro e w1 ⟨rfl, hb1⟩
  have H1 : Hid (PfxAt w1 B p ∧ Below w.heap.size w w1) := ⟨HBX.out.below hb1, HLX.out.trans (hb1.mono HLX.out.size)⟩
  clear hb1
  obtain ⟨e0, he0⟩ : ∃ e0, vpE p = e0 := ⟨_, rfl⟩
  have HE : Hid (vpE p = e0) := he0
  rw [he0]
  clear he0
  by_cases h0 : e0 = 0
  · subst h0
    obtain ⟨n, hn⟩ : ∃ n : Nat, p.n = (n : Int) ∧ n ≤ 128 := ⟨p.n.toNat, by have := vp_n HE.out; omega⟩
    have HN : Hid (p.n = (n : Int) ∧ n ≤ 128) := hn
    have k17 : w1.cell? ⟨B, 17, none⟩ = some (.int .i64 (n : Int)) := by rw [← hn.1]; exact H1.out.1.cn
    clear hn
    go_wp2_with (refine wpList_mid_ipr (.tmp 13) rfl B 0 p.V p.x rfl H1.out.1.ip rfl ?_)
    refine (printIP_any p.V p.x w1 HX.out (HT.out.below H1.out.2)).mono ?_
    rintro e w2 ⟨rfl, hb2⟩
    rw [prO_yes (vp_vld HE.out)]
    have H2 : Hid (PfxAt w2 B p ∧ Below w.heap.size w w2) := ⟨H1.out.1.below hb2, H1.out.2.trans (hb2.mono H1.out.2.size)⟩
    clear hb2 k17
    have k17 : w2.cell? ⟨B, 17, none⟩ = some (.int .i64 (n : Int)) := by rw [← HN.out.1]; exact H2.out.1.cn
    go_wp2_with (refine wpList_cat (.tmp 18) (.const (.string ⟨#[47]⟩)) rfl (prIP p.V p.x) [47] _ _ rfl rfl rfl rfl rfl (by have := prIP_short p.V p.x; simp; omega) ?_)
    refine (itoa_byte n (by have := HN.out; omega) w2 (HT.out.p.below H2.out.2)).mono ?_
    rintro e w3 ⟨rfl, hb3⟩
    have H3 : Hid (Below w.heap.size w w3) := H2.out.2.trans (hb3.mono H2.out.2.size)
    clear hb3 k17
    go_wp2_with (refine wpList_cat (.tmp 19) (.tmp 22) rfl (prIP p.V p.x ++ [47]) (dec3 n) _ _ rfl rfl rfl rfl rfl (by have := prIP_short p.V p.x; have := dec3_hi n; simp; omega) ?_)
    refine bodyPost_ret (results_tmp2 rfl _ _ _) rfl ?_
    exact ⟨by rw [pfO_yes HE.out]; unfold prPF; rw [HN.out.1]; rfl, H3.out⟩
  · have q0 : (((e0 : Nat) : Int) != 0) = true := by simp [h0]
    have HE2 : Hid (vpE p ≠ 0) := by show vpE p ≠ 0; rw [HE.out]; exact h0
    clear h0
    go_wp2
    refine bodyPost_ret (results_tmp2 rfl _ _ _) rfl ?_
    exact ⟨by rw [pfO_no HE2.out, HE.out]; rfl, H1.out.2⟩
end Go.Proofs.YteldiggaooeeeaaGreatDoor
namespace Go.Proofs.YteldiggaooeeeaaGreatDoor
open Go.RowKit Go.Maps

def macC (m : Nat → Nat) : Array Value := #[.int .u8 (m 0 : Nat), .int .u8 (m 1 : Nat), .int .u8 (m 2 : Nat), .int .u8 (m 3 : Nat), .int .u8 (m 4 : Nat), .int .u8 (m 5 : Nat)]
def mz : Nat → Nat := fun _ => 0
theorem Tryz.size_mac : (Tryz.prog.info? 40).map (·.size) = some 6 := by kernel_rfl
def MacAt (w : World) (O : Nat) (mv : Nat → Nat) : Prop := w.heap[O]? = some (.cells (macC mv) 40 (0, 0))
section
variable {w : World} {O : Nat} {mv : Nat → Nat} (k : MacAt w O mv)
include k
theorem MacAt.lt : O < w.heap.size := (Array.getElem?_eq_some_iff.1 k).1
theorem MacAt.ch {S : Nat → Prop} {w' : World} (c : Ch S w w') (hS : ¬ S O) : MacAt w' O mv := (c.block O k.lt hS).trans k
theorem MacAt.below {w' : World} (c : Below w.heap.size w w') : MacAt w' O mv := (c.block O k.lt).trans k
theorem MacAt.cell (i : Nat) : w.cell? ⟨O, i, none⟩ = (macC mv)[i]? := by unfold MacAt at k; simp [World.cell?, k]
theorem MacAt.fz (j : Nat) : w.frozen? ⟨O, j, none⟩ = false := by unfold MacAt at k; simp [World.frozen?, k]
theorem MacAt.range (o n : Nat) : w.rangeAt O o (((macC mv).extract o (o + n)).toList) := World.rangeAt_of_block k o n
end
theorem mac_new (w : World) (mv : Nat → Nat) : MacAt (w.alloc (.cells (macC mv) 40)) w.heap.size mv := heap_alloc_new _ _
theorem wpList_load_mac {ops : Array Oper} {rest : List Oper} {o : Oper} {a : Act} {w : World} {Q : Exit → Act → World → Prop} (x : Operand) (ho : o.op = .load 40 x) (O : Nat) (mv : Nat → Nat) (hx : a.eval x = .pointer (some ⟨O, 0, none⟩)) (hb : MacAt w O mv)
    (hw : Region.wanted o (yielded ops a.tmps) = true) (hh : wpList Tryz.prog ops Q rest (a.put o.dst (.agg (macC mv))) w) : wpList Tryz.prog ops Q (o :: rest) a w := by
  refine wpList_step fun K hK => ?_
  rw [if_pos hw]
  exact wp_load_row 40 x ho O hx _ _ _ _ hb Tryz.underlying40 rfl Tryz.size_mac (hK _ _ hh)
theorem wpList_store_mac {ops : Array Oper} {rest : List Oper} {o : Oper} {a : Act} {w : World} {Q : Exit → Act → World → Prop} (x y : Operand) (ho : o.op = .store 40 x y) (hd : o.dst = none) (O : Nat) (mv : Nat → Nat) (mv' : Nat → Nat) (hx : a.eval x = .pointer (some ⟨O, 0, none⟩)) (hy : a.eval y = .agg (macC mv')) (hb : MacAt w O mv)
    (hw : Region.wanted o (yielded ops a.tmps) = true) (hh : ∀ w', MacAt w' O mv' → Ch (fun q => q = O) w w' → wpList Tryz.prog ops Q rest a w') : wpList Tryz.prog ops Q (o :: rest) a w := by
  refine wpList_step fun K hK => ?_
  rw [if_pos hw]
  refine wp_store_row 40 x y ho O (macC mv') hx hy _ (macC mv) hb Tryz.size_mac rfl (by simp [macC, Value.oneCell']) (hK _ _ ?_)
  rw [hd]
  refine hh _ (setRow_heap w O _ _ _ _ hb) ⟨rfl, rfl, rfl, ?_, ?_⟩
  · simp [World.setRow]
  · intro k hk hne
    simp only [World.setRow]
    rw [Array.getElem?_modify, if_neg (fun e => hne e.symm)]
theorem wpList_alloc_mac {ops : Array Oper} {rest : List Oper} {o : Oper} {a : Act} {w : World} {Q : Exit → Act → World → Prop} (ho : o.op = .alloc 40) (hw : Region.wanted o (yielded ops a.tmps) = true)
    (h : wpList Tryz.prog ops Q rest (a.put o.dst (.pointer (some ⟨w.heap.size, 0, none⟩))) (w.alloc (.cells (macC mz) 40))) : wpList Tryz.prog ops Q (o :: rest) a w := by
  refine wpList_step fun K hK => ?_
  rw [if_pos hw]
  have hrun : (execOp a.eval o).run Tryz.prog w = .ok (.value (.pointer (some ⟨w.heap.size, 0, none⟩))) (w.alloc (.cells (macC mz) 40)) := by
    obtain ⟨dst, op, type, pos, after, guard⟩ := o
    simp only at ho
    subst ho
    simp only [execOp]
    go_simp
    rfl
  unfold Oper.wp
  rw [hrun]
  exact hK _ _ h
theorem yields_mac {ops : Array Oper} {o : Oper} {a : Act} {S : World → Prop} (x : Operand) (ho : o.op = .load 40 x) (O off : Nat) (mv : Nat → Nat) (hx : a.eval x = .pointer (some ⟨O, off, none⟩)) (hw : Region.wanted o (yielded ops a.tmps) = true) (hS : ∀ w, S w → w.rangeAt O off (macC mv).toList) : YieldsIf Tryz.prog ops S o (.agg (macC mv)) a :=
  yieldsIf_load_mid hw 40 x ho O off hx (macC mv).toList _ hS Tryz.underlying40 rfl Tryz.size_mac
theorem wpList_mid_mac {ops : Array Oper} {rest : List Oper} {o : Oper} {a : Act} {w : World} {Q : Exit → Act → World → Prop} (x : Operand) (ho : o.op = .load 40 x) (O off : Nat) (mv : Nat → Nat) (hx : a.eval x = .pointer (some ⟨O, off, none⟩)) (hb : w.rangeAt O off (macC mv).toList)
    (hw : Region.wanted o (yielded ops a.tmps) = true) (h : wpList Tryz.prog ops Q rest (a.put o.dst (.agg (macC mv))) w) : wpList Tryz.prog ops Q (o :: rest) a w := by
  refine wpList_step fun K hK => ?_
  rw [if_pos hw]
  exact wp_load_mid 40 x ho O off hx (macC mv).toList _ hb Tryz.underlying40 rfl Tryz.size_mac (hK _ _ h)
theorem results_mac {fn : Func} {p : Tmp} (h : fn.results = #[.cell p 40]) (tmps : Array Value) (w : World) (O : Nat) (mv : Nat → Nat) (hp : tmps.getD p undef = .pointer (some ⟨O, 0, none⟩)) (hb : MacAt w O mv) :
    (results fn tmps).run Tryz.prog w = .ok (.agg (macC mv)) w :=
  results_cell_row h tmps w O _ (macC mv) _ _ hp hb Tryz.underlying40 rfl Tryz.size_mac
def same6 (x y : Nat → Nat) : Bool := decide (x 0 = y 0 ∧ x 1 = y 1 ∧ x 2 = y 2 ∧ x 3 = y 3 ∧ x 4 = y 4 ∧ x 5 = y 5)
set_option maxHeartbeats 1600000 in
set_option maxRecDepth 100000 in
theorem eq6 (x y : Nat → Nat) (w : World) (d : Nat) : (Op.equalIn (d + 2) 40 (.agg (macC x)) (.agg (macC y))).run Tryz.prog w = .ok (same6 x y) w := by
  have u5 := Tryz.underlying5
  have a5 := Tryz.isAgg5
  have z5 := Tryz.sizeOf5
  rw [show (d + 2 : Nat) = (d + 1) + 1 from rfl, Op.equalIn]
  unfold macC
  simp only [Sem.run_bind, run_underlying Tryz.underlying40, Result.andThen_ok]
  simp only [Std.Legacy.Range.forIn_eq_forIn_range', Std.Legacy.Range.size, Nat.sub_zero, Nat.add_sub_cancel, Nat.div_one, List.range'_succ, List.range'_zero, List.forIn_cons, List.forIn_nil]
  go_simp
  unfold same6
  (repeat' split) <;> simp_all <;> omega
theorem eq6top (x y : Nat → Nat) (w : World) : (Op.equalIn 10000 40 (.agg (macC x)) (.agg (macC y))).run Tryz.prog w = .ok (same6 x y) w := eq6 x y w 9998
theorem Tryz.macGuard : Tryz.prog.eqGuardType Tryz.prog.depth 40 = false := by kernel_rfl
theorem wpList_eql_mac {ops : Array Oper} {rest : List Oper} {o : Oper} {a : Act} {w : World} {Q : Exit → Act → World → Prop} (X Y : Operand) (ho : o.op = .binOp .eql 40 X Y 40) (x y : Nat → Nat) (hx : a.eval X = .agg (macC x)) (hy : a.eval Y = .agg (macC y)) (b : Bool) (hb : same6 x y = b)
    (hw : Region.wanted o (yielded ops a.tmps) = true) (h : wpList Tryz.prog ops Q rest (a.put o.dst (.bool b)) w) : wpList Tryz.prog ops Q (o :: rest) a w := by
  refine wpList_step fun K hK => ?_
  rw [if_pos hw]
  have hrun : (execOp a.eval o).run Tryz.prog w = .ok (.value (.bool b)) w := by
    subst hb
    obtain ⟨dst, op, type, pos, after, guard⟩ := o
    simp only at ho
    subst ho
    simp only [execOp, Sem.run_bind, Sem.run_pure, hx, hy, run_eqGuard_agg w .eql 40 _ _ _ _ Tryz.macGuard, Result.andThen_ok, run_eql_struct, eq6top]
  unfold Oper.wp
  rw [hrun]
  exact hK _ _ h
theorem yields_sBu {ops : Array Oper} {S : World → Prop} {o : Oper} {a : Act} (x y : Operand) (ho : o.op = .index 9 x y) (k : IntKind) (s : ByteArray) (p : Nat) (z : Int) (hx : a.eval x = .string s) (hy : a.eval y = .int k z) (hz : z = (p : Int)) (hp : p < s.size) (hw : Region.wanted o (yielded ops a.tmps) = true) : YieldsIf Tryz.prog ops S o (.int .u8 (sB s p : Nat)) a := by
  refine .inl ⟨hw, fun w _ => ?_⟩
  obtain ⟨dst, op, type, pos, after, guard⟩ := o
  simp only at ho
  subst ho
  simp only [execOp, Sem.run_bind, hx, hy, hz]
  rw [run_index_string w 9 s k (p : Int) Tryz.underlying9, dif_pos (by omega)]
  simp only [Result.andThen_ok, Int.toNat_natCast, sB_get s p hp]
  rfl
def dgM : ByteArray := ⟨#[48, 49, 50, 51, 52, 53, 54, 55, 56, 57, 97, 98, 99, 100, 101, 102]⟩
theorem dgM_at {k : Nat} (h : k < 16) : sB dgM k = hd k := by
  have : ∀ i : Fin 16, sB dgM i.val = hd i.val := by decide +kernel
  exact this ⟨k, h⟩
/-- a byte in two digits -/
def mcD (b : Nat) : List Nat := [hd (b / 16), hd (b % 16)]
/-- the text of the first k bytes of a link address -/
def prM (m : Nat → Nat) (k : Nat) : List Nat := jn ((List.range k).map fun i => mcD (m i))
theorem jn_snoc : ∀ (L : List (List Nat)) (a : List Nat), L ≠ [] → jn (L ++ [a]) = jn L ++ 58 :: a
  | [], a, h => absurd rfl h
  | [b], a, _ => rfl
  | b :: c :: t, a, _ => by
    have h := jn_snoc (c :: t) a (by simp)
    show b ++ 58 :: jn (c :: t ++ [a]) = _
    rw [h, jn_two, List.append_assoc]
    rfl
theorem prM_succ (m : Nat → Nat) (k : Nat) : prM m (k + 1) = (if k = 0 then [] else prM m k ++ [58]) ++ mcD (m k) := by
  unfold prM
  rw [List.range_succ, List.map_append]
  by_cases h : k = 0
  · subst h; rfl
  · rw [if_neg h, List.map_cons, List.map_nil, jn_snoc _ _ (by simp; exact h)]
    simp
theorem prM_len (m : Nat → Nat) : ∀ k, (prM m k).length = 3 * k - 1
  | 0 => rfl
  | k + 1 => by
    rw [prM_succ]
    by_cases h : k = 0
    · subst h; rfl
    · rw [if_neg h, List.length_append, List.length_append, prM_len m k]
      simp [mcD]; omega
theorem prM_lt {m : Nat → Nat} (hm : ∀ i, i < 6 → m i < 256) : ∀ k, k ≤ 6 → ∀ c ∈ prM m k, c < 256
  | 0, _, c, hc => by cases hc
  | k + 1, hk, c, hc => by
    rw [prM_succ] at hc
    have h1 := hm k (by omega)
    have h2 := prM_lt hm k (by omega)
    have h3 := hd_lt (show m k / 16 < 16 by omega)
    have h4 := hd_lt (show m k % 16 < 16 by omega)
    by_cases h : k = 0
    · rw [if_pos h] at hc
      simp [mcD] at hc
      rcases hc with rfl | rfl <;> assumption
    · rw [if_neg h] at hc
      simp [mcD] at hc
      rcases hc with hc | rfl | rfl | rfl
      · exact h2 c hc
      · decide
      · assumption
      · assumption
theorem u8_and15 (b : Nat) (h : b < 256) : bits BinOp.and IntKind.u8 (b : Int) 15 = ((b % 16 : Nat) : Int) := by
  have h1 := Go.u8_and_nat b 15 h (by omega)
  rw [show ((15 : Nat) : Int) = 15 from rfl] at h1
  rw [h1]
  congr 1
  exact Nat.and_two_pow_sub_one_eq_mod b 4
theorem u8_shr4 (b : Nat) : (b : Int).fdiv (2 ^ min (Int.toNat 4) IntKind.u8.bits) = ((b / 16 : Nat) : Int) := by
  rw [show (2 ^ min (Int.toNat 4) IntKind.u8.bits : Int) = 16 from rfl, Int.fdiv_eq_ediv_of_nonneg _ (by omega)]
  omega
theorem run_idx_mac (m : Nat → Nat) (w : World) (k : Nat) (h : k < 6) : (Instr.index 40 (.agg (macC m)) (.int .i64 (k : Int))).run Tryz.prog w = .ok (.int .u8 (m k : Nat)) w := by
  rcases (show k = 0 ∨ k = 1 ∨ k = 2 ∨ k = 3 ∨ k = 4 ∨ k = 5 by omega) with rfl | rfl | rfl | rfl | rfl | rfl <;> kernel_rfl
theorem wpList_idx_mac {ops : Array Oper} {rest : List Oper} {o : Oper} {a : Act} {w : World} {Q : Exit → Act → World → Prop} (x y : Operand) (ho : o.op = .index 40 x y) (m : Nat → Nat) (k : Nat) (hx : a.eval x = .agg (macC m)) (hy : a.eval y = .int .i64 (k : Int)) (hk : k < 6) (hw : Region.wanted o (yielded ops a.tmps) = true)
    (h : wpList Tryz.prog ops Q rest (a.put o.dst (.int .u8 (m k : Nat))) w) : wpList Tryz.prog ops Q (o :: rest) a w := by
  refine wpList_step fun K hK => ?_
  rw [if_pos hw]
  have hrun : (execOp a.eval o).run Tryz.prog w = .ok (.value (.int .u8 (m k : Nat))) w := by
    obtain ⟨dst, op, type, pos, after, guard⟩ := o
    simp only at ho
    subst ho
    simp only [execOp, Sem.run_bind, hx, hy, run_idx_mac m w k hk, Result.andThen_ok]
    rfl
  unfold Oper.wp
  rw [hrun]
  exact hK _ _ h
theorem cellsTwo (w : World) (u v : Value) (T : TypeId) : ∀ j x, [u, v][j]? = some x → (w.alloc (.cells #[u, v] T)).cell? ((⟨w.heap.size, 0, none⟩ : Addr).add j) = some x := by
  intro j x h
  rcases j with _ | _ | j
  · simp at h
    subst h
    exact World.cell?_alloc_at _ _ _ _ rfl
  · simp at h
    subst h
    exact World.cell?_alloc_at _ _ _ _ rfl
  · simp at h
def bV (L : List Nat) : List Value := L.map fun n => Value.int .u8 (n : Nat)
set_option maxHeartbeats 1600000 in
set_option maxRecDepth 100000 in
theorem printMac_any (m : Nat → Nat) (w : World) (hm : ∀ i, i < 6 → m i < 256) : Calls Tryz.prog 50 #[.agg (macC m)] w fun r w' => r = .returned (.string (txB (prM m 6))) ∧ Below w.heap.size w w' := by
  obtain ⟨i0, hi, hz0, hz1, hz2⟩ := info_parts Tryz.infoByte
  have HI : Hid (Tryz.prog.info? 5 = some i0 ∧ i0.zero = some (.int .u8 0) ∧ i0.size = 1 ∧ i0.bytes = 1) := ⟨hi, hz0, hz1, hz2⟩
  have HM : Hid (∀ i, i < 6 → m i < 256) := hm
  clear hi hz0 hz1 hz2 hm
  have hb := mac_new w m
  have bel : Below w.heap.size w (w.alloc (.cells (macC m) 40)) := (Below.refl _ _).alloc (Nat.le_refl _) _
  obtain ⟨CX, hC⟩ : ∃ C, C = macC m := ⟨_, rfl⟩
  obtain ⟨W, hW⟩ : ∃ W_, W_ = w.alloc (.cells (macC m) 40) := ⟨_, rfl⟩
  rw [← hW] at hb bel
  have HSZX : Hid (W.heap.size = w.heap.size + 1) := by show _ = _; rw [hW, World.size_alloc]
  obtain ⟨B, hB⟩ : ∃ B, B = w.heap.size := ⟨_, rfl⟩
  rw [← hB] at hb
  have HBX : Hid (MacAt W B m) := hb
  rw [← hC] at hW ⊢
  have HOX : Hid (w.heap.size = B) := hB.symm
  have HLX : Hid (Below w.heap.size w W) := bel
  have HWX : Hid (w.alloc (.cells CX 40) = W) := hW.symm
  clear hb hW hB hC bel
  go_enter Tryz.func50, Tryz.ntmps50
  go_upto_region 2 with fail
  rw [HOX.out, HWX.out]
  go_wp2_with (refine wpList_load_mac (.tmp 1) rfl B m rfl HBX.out rfl ?_)
  go_loopw [3, 7] (fun lv iv wr => ∃ (k c : Nat) (a : Option Addr), k ≤ 6 ∧ iv = .int .i64 (k : Nat) ∧ lv = .slice a (3 * k - 1) c ∧ Hid (wr.ownsRow w.heap.size 5 1 (.slice a (3 * k - 1) c) (3 * k - 1) (bV (prM m k)) ∧ Below w.heap.size w wr)) (fun _ iv _ => 6 - (intOf iv).toNat)
  case atStart => exact ⟨0, 0, none, by omega, rfl, rfl, World.ownsRow_nil _ _ _ _, HLX.out⟩
  case round =>
    obtain ⟨k, c, a, hk6, rfl, rfl, HO⟩ := hrel
    have HK6 : Hid (k ≤ 6) := hk6
    obtain ⟨n, hn⟩ : ∃ n, 3 * k - 1 = n := ⟨_, rfl⟩
    have HN : Hid (3 * k - 1 = n) := hn
    rw [hn]
    clear hk6 hn
    by_cases hlt : k < 6
    · have p1 : decide ((k : Int) < 6) = true := decide_eq_true (by omega)
      have p2 : decide (k < 6) = true := decide_eq_true hlt
      have p3 : (k : Int) < 6 := by omega
      have p4 : (0 : Int) ≤ (k : Int) := by omega
      have x3 : IntKind.i64.wrap ((k : Int) + 1) = (k : Int) + 1 := i64_s _ (by omega) (by omega)
      have HLT : Hid (k < 6) := hlt
      clear hlt
      have IDX := HLT
      by_cases h0 : k = 0
      · have q1 : decide ((0 : Int) < (k : Int)) = false := decide_eq_false (by omega)
        have q2 : decide (0 < k) = false := decide_eq_false (by omega)
        have HT : Hid (bV (prM m k) = bV [] ∧ n = 0 ∧ prM m (k + 1) = [] ++ mcD (m k)) := ⟨by rw [h0]; rfl, by have := HN.out; omega, by rw [prM_succ, if_pos h0]⟩
        have HR0 : Hid (wr.ownsRow w.heap.size 5 1 (.slice a n c) n (bV []) ∧ Below w.heap.size w wr ∧ n + 2 = 3 * (k + 1) - 1) := ⟨by have h1 := HO.out.1; rw [HT.out.1, HN.out] at h1; exact h1, HO.out.2, by have := HT.out; omega⟩
        clear h0
        go_upto_region 7 with (refine wpList_idx_mac (.tmp 6) (.tmp 7) rfl m k rfl rfl HLT.out rfl ?_)
        refine MixH.start (fun A => Below w.heap.size w A) (by kernel_rfl) ?_
        obtain ⟨wA, hwA⟩ : ∃ W_, W_ = wr.drew := ⟨_, rfl⟩
        have bdr : Below wr.heap.size wr wA := by rw [hwA]; exact (Below.refl _ _).drew
        have hS : Below w.heap.size w wA := HR0.out.2.1.trans (bdr.mono HR0.out.2.1.size)
        have HRA : Hid (wA.ownsRow w.heap.size 5 1 (.slice a (n) c) (n) (bV ([]))) := (Ch.ofBelow (S := fun _ => False) bdr).owns HR0.out.1 (fun _ _ h => h)
        rw [← hwA]
        clear hwA bdr
        refine MixH.takes [true, true, true, false, true, true] 5 (by kernel_rfl) (by kernel_rfl) (by decide) (by kernel_rfl) hS (fun K hK => ?_)
        simp only [Mix.pick]
        repeat (go_big_quiet_step (fail))
        refine wpQuiet_nil (hK _ ?_)
        clear hK K
        refine MixH.take 4 3 _ (.int .u8 (sB dgM (m k / 16) : Nat)) rfl (by kernel_rfl) (by kernel_rfl) (by kernel_rfl) (by kernel_rfl) (yields_sBu (.const (.string dgM)) (.tmp 18) rfl .u8 dgM (m k / 16) _ rfl rfl (by omega) (Nat.lt_of_lt_of_le (show m k / 16 < 16 by have := HM.out k HLT.out; omega) (Nat.le_refl _)) rfl) hS (fun a' ha => ?_)
        simp only [Act.put, List.setIfInBounds_toArray, List.set_cons_succ, List.set_cons_zero] at ha
        subst ha
        refine MixH.take 3 6 _ (.int .u8 (sB dgM (m k % 16) : Nat)) rfl (by kernel_rfl) (by kernel_rfl) (by kernel_rfl) (by kernel_rfl) (yields_sBu (.const (.string dgM)) (.tmp 21) rfl .u8 dgM (m k % 16) _ rfl rfl (u8_and15 (m k) (HM.out k HLT.out)) (Nat.lt_of_lt_of_le (show m k % 16 < 16 by omega) (Nat.le_refl _)) rfl) hS (fun a' ha => ?_)
        simp only [Act.put, List.setIfInBounds_toArray, List.set_cons_succ, List.set_cons_zero] at ha
        subst ha
        refine MixH.one [false, false, false, false, false, false, false, true] 2 7 _ rfl rfl (by kernel_rfl) (by kernel_rfl) (fun K hK => ?_)
        simp only [Mix.pick]
        go_wp2_with fail
        obtain ⟨w3, hw3⟩ : ∃ W_, W_ = wA.alloc (.cells #[.int .u8 (sB dgM (m k / 16) : Nat), .int .u8 (sB dgM (m k % 16) : Nat)] 5) := ⟨_, rfl⟩
        have b3 : Below wA.heap.size wA w3 := by rw [hw3]; exact (Below.refl _ _).alloc (Nat.le_refl _) _
        have HC3 : Hid (∀ j u, [Value.int .u8 (sB dgM (m k / 16) : Nat), Value.int .u8 (sB dgM (m k % 16) : Nat)][j]? = some u → w3.cell? ((⟨wA.heap.size, 0, none⟩ : Addr).add j) = some u) := by rw [hw3]; exact cellsTwo wA _ _ _
        have HZ3 : Hid (w.heap.size ≤ wA.heap.size ∧ wA.heap.size < w3.heap.size) := ⟨hS.size, by rw [hw3, World.size_alloc]; omega⟩
        have hS : Below w.heap.size w w3 := hS.trans (b3.mono hS.size)
        have HR3 : Hid (w3.ownsRow w.heap.size 5 1 (.slice a (n) c) (n) (bV ([]))) := (Ch.ofBelow (S := fun _ => False) b3).owns HRA.out (fun _ _ h => h)
        rw [← hw3]
        clear hw3 b3
        refine ⟨rfl, hK _ _ hS ?_⟩
        clear hK K
        refine MixH.one [false, false, false, false, false, false, false, false, true] 1 8 _ rfl rfl (by kernel_rfl) (by kernel_rfl) (fun K hK => ?_)
        simp only [Mix.pick]
        go_wp2_with (at_builtin; refine wpList_append_own_at _ rfl (.tmp 16) (.tmp 23) 50 rfl w.heap.size 5 i0 (.int .u8 0) 1 1 Tryz.underlying50 HI.out.1 HI.out.2.1 HI.out.2.2.1 HI.out.2.2.2 rfl (by decide) _ _ _ rfl HR3.out ⟨wA.heap.size, 0, none⟩ 2 2 [.int .u8 (sB dgM (m k / 16) : Nat), .int .u8 (sB dgM (m k % 16) : Nat)] rfl rfl HC3.out (by intro u hu; simp at hu; rcases hu with rfl | rfl <;> rfl) (by have := HR0.out.2.2; have := HLT.out; unfold maxLen; omega) (by have := HR0.out.2.2; have := HLT.out; omega) (by have := HZ3.out; omega) ?_)
        intro v4 w4 ho4 hg4 _ _
        obtain ⟨a4, c4, rfl⟩ := owns_shape ho4
        have HR4 : Hid (w4.ownsRow w.heap.size 5 1 (.slice a4 (n + 2) c4) (n + 2) (bV (prM m (k + 1)))) := by
          have h := ho4
          rw [dgM_at (by have := HM.out k HLT.out; omega), dgM_at (by omega)] at h
          rw [HT.out.2.2]
          have e : bV (([]) ++ mcD (m k)) = bV ([]) ++ [.int .u8 (hd (m k / 16) : Nat), .int .u8 (hd (m k % 16) : Nat)] := by simp [bV, mcD]
          show World.ownsRow _ _ _ _ _ _ _
          rw [e]
          exact h
        have hS : Below w.heap.size w w4 := hS.grown hg4 (by have := HZ3.out; omega) (fun q hq => (HR3.out.lt q hq).1)
        clear ho4 hg4
        refine ⟨rfl, hK _ _ hS ?_⟩
        clear hK K
        refine MixH.takes [false, false, false, false, false, false, false, false, false, true] 0 (by kernel_rfl) (by kernel_rfl) (by decide) (by kernel_rfl) hS (fun K hK => ?_)
        simp only [Mix.pick]
        repeat (go_big_quiet_step (fail))
        refine wpQuiet_nil (hK _ ?_)
        clear hK K
        refine MixH.done (by kernel_rfl) ?_
        have HS4 : Hid (Below w.heap.size w w4) := hS
        clear hS
        go_wp2
        go_roundw
        case rel => exact ⟨k + 1, c4, a4, HLT.out, by simp, by rw [← HR0.out.2.2], by rw [← HR0.out.2.2]; exact HR4.out, HS4.out⟩
        case measure => have := HLT.out; simp [intOf]; omega
      · have q1 : decide ((0 : Int) < (k : Int)) = true := decide_eq_true (by omega)
        have q2 : decide (0 < k) = true := decide_eq_true (by omega)
        have HT : Hid (prM m (k + 1) = (prM m k ++ [58]) ++ mcD (m k)) := by show _ = _; rw [prM_succ, if_neg h0]
        have HR : Hid (wr.ownsRow w.heap.size 5 1 (.slice a n c) n (bV (prM m k))) := by have h1 := HO.out.1; rw [HN.out] at h1; exact h1
        have HK0 : Hid (n + 1 + 2 = 3 * (k + 1) - 1) := by have := HN.out; show _ = _; omega
        clear h0
        go_upto_region 7 with (first | (refine wpList_idx_mac (.tmp 6) (.tmp 7) rfl m k rfl rfl HLT.out rfl ?_) | (at_builtin; refine wpList_append_own_at _ rfl (.tmp 13) (.tmp 14) 50 rfl w.heap.size 5 i0 (.int .u8 0) 1 1 Tryz.underlying50 HI.out.1 HI.out.2.1 HI.out.2.2.1 HI.out.2.2.2 rfl (by decide) _ _ _ rfl (HR.out.alloc _) ⟨wr.heap.size, 0, none⟩ 1 1 [.int .u8 58] rfl rfl (cellsOne _ _ _) (by intro u hu; simp at hu; subst hu; rfl) (by have := HK0.out; have := HLT.out; unfold maxLen; omega) (by have := HK0.out; have := HLT.out; omega) (by have := HO.out.2.size; simp; omega) ?_))
        intro v2 w2 ho2 hg2 _ _
        obtain ⟨a2, c2, rfl⟩ := owns_shape ho2
        have HB2 : Hid (Below w.heap.size w w2) := (HO.out.2.alloc HO.out.2.size _).grown hg2 (by have := HO.out.2.size; simp; omega) (fun q hq => (HR.out.lt q hq).1)
        have ho3 : w2.ownsRow w.heap.size 5 1 (.slice a2 (n + 1) c2) (n + 1) (bV (prM m k ++ [58])) := by rw [show bV (prM m k ++ [58]) = bV (prM m k) ++ [.int .u8 58] by simp [bV]]; exact ho2
        have HR2 : Hid (w2.ownsRow w.heap.size 5 1 (.slice a2 (n + 1) c2) (n + 1) (bV (prM m k ++ [58]))) := ho3
        clear ho2 hg2 ho3
        go_upto_region 7 with fail
        refine MixH.start (fun A => Below w.heap.size w A) (by kernel_rfl) ?_
        obtain ⟨wA, hwA⟩ : ∃ W_, W_ = w2.drew := ⟨_, rfl⟩
        have bdr : Below w2.heap.size w2 wA := by rw [hwA]; exact (Below.refl _ _).drew
        have hS : Below w.heap.size w wA := HB2.out.trans (bdr.mono HB2.out.size)
        have HRA : Hid (wA.ownsRow w.heap.size 5 1 (.slice a2 (n + 1) c2) (n + 1) (bV (prM m k ++ [58]))) := (Ch.ofBelow (S := fun _ => False) bdr).owns HR2.out (fun _ _ h => h)
        rw [← hwA]
        clear hwA bdr
        refine MixH.takes [true, true, true, false, true, true] 5 (by kernel_rfl) (by kernel_rfl) (by decide) (by kernel_rfl) hS (fun K hK => ?_)
        simp only [Mix.pick]
        repeat (go_big_quiet_step (fail))
        refine wpQuiet_nil (hK _ ?_)
        clear hK K
        refine MixH.take 4 3 _ (.int .u8 (sB dgM (m k / 16) : Nat)) rfl (by kernel_rfl) (by kernel_rfl) (by kernel_rfl) (by kernel_rfl) (yields_sBu (.const (.string dgM)) (.tmp 18) rfl .u8 dgM (m k / 16) _ rfl rfl (by omega) (Nat.lt_of_lt_of_le (show m k / 16 < 16 by have := HM.out k HLT.out; omega) (Nat.le_refl _)) rfl) hS (fun a' ha => ?_)
        simp only [Act.put, List.setIfInBounds_toArray, List.set_cons_succ, List.set_cons_zero] at ha
        subst ha
        refine MixH.take 3 6 _ (.int .u8 (sB dgM (m k % 16) : Nat)) rfl (by kernel_rfl) (by kernel_rfl) (by kernel_rfl) (by kernel_rfl) (yields_sBu (.const (.string dgM)) (.tmp 21) rfl .u8 dgM (m k % 16) _ rfl rfl (u8_and15 (m k) (HM.out k HLT.out)) (Nat.lt_of_lt_of_le (show m k % 16 < 16 by omega) (Nat.le_refl _)) rfl) hS (fun a' ha => ?_)
        simp only [Act.put, List.setIfInBounds_toArray, List.set_cons_succ, List.set_cons_zero] at ha
        subst ha
        refine MixH.one [false, false, false, false, false, false, false, true] 2 7 _ rfl rfl (by kernel_rfl) (by kernel_rfl) (fun K hK => ?_)
        simp only [Mix.pick]
        go_wp2_with fail
        obtain ⟨w3, hw3⟩ : ∃ W_, W_ = wA.alloc (.cells #[.int .u8 (sB dgM (m k / 16) : Nat), .int .u8 (sB dgM (m k % 16) : Nat)] 5) := ⟨_, rfl⟩
        have b3 : Below wA.heap.size wA w3 := by rw [hw3]; exact (Below.refl _ _).alloc (Nat.le_refl _) _
        have HC3 : Hid (∀ j u, [Value.int .u8 (sB dgM (m k / 16) : Nat), Value.int .u8 (sB dgM (m k % 16) : Nat)][j]? = some u → w3.cell? ((⟨wA.heap.size, 0, none⟩ : Addr).add j) = some u) := by rw [hw3]; exact cellsTwo wA _ _ _
        have HZ3 : Hid (w.heap.size ≤ wA.heap.size ∧ wA.heap.size < w3.heap.size) := ⟨hS.size, by rw [hw3, World.size_alloc]; omega⟩
        have hS : Below w.heap.size w w3 := hS.trans (b3.mono hS.size)
        have HR3 : Hid (w3.ownsRow w.heap.size 5 1 (.slice a2 (n + 1) c2) (n + 1) (bV (prM m k ++ [58]))) := (Ch.ofBelow (S := fun _ => False) b3).owns HRA.out (fun _ _ h => h)
        rw [← hw3]
        clear hw3 b3
        refine ⟨rfl, hK _ _ hS ?_⟩
        clear hK K
        refine MixH.one [false, false, false, false, false, false, false, false, true] 1 8 _ rfl rfl (by kernel_rfl) (by kernel_rfl) (fun K hK => ?_)
        simp only [Mix.pick]
        go_wp2_with (at_builtin; refine wpList_append_own_at _ rfl (.tmp 16) (.tmp 23) 50 rfl w.heap.size 5 i0 (.int .u8 0) 1 1 Tryz.underlying50 HI.out.1 HI.out.2.1 HI.out.2.2.1 HI.out.2.2.2 rfl (by decide) _ _ _ rfl HR3.out ⟨wA.heap.size, 0, none⟩ 2 2 [.int .u8 (sB dgM (m k / 16) : Nat), .int .u8 (sB dgM (m k % 16) : Nat)] rfl rfl HC3.out (by intro u hu; simp at hu; rcases hu with rfl | rfl <;> rfl) (by have := HK0.out; have := HLT.out; unfold maxLen; omega) (by have := HK0.out; have := HLT.out; omega) (by have := HZ3.out; omega) ?_)
        intro v4 w4 ho4 hg4 _ _
        obtain ⟨a4, c4, rfl⟩ := owns_shape ho4
        have HR4 : Hid (w4.ownsRow w.heap.size 5 1 (.slice a4 (n + 1 + 2) c4) (n + 1 + 2) (bV (prM m (k + 1)))) := by
          have h := ho4
          rw [dgM_at (by have := HM.out k HLT.out; omega), dgM_at (by omega)] at h
          rw [HT.out]
          have e : bV ((prM m k ++ [58]) ++ mcD (m k)) = bV (prM m k ++ [58]) ++ [.int .u8 (hd (m k / 16) : Nat), .int .u8 (hd (m k % 16) : Nat)] := by simp [bV, mcD]
          show World.ownsRow _ _ _ _ _ _ _
          rw [e]
          exact h
        have hS : Below w.heap.size w w4 := hS.grown hg4 (by have := HZ3.out; omega) (fun q hq => (HR3.out.lt q hq).1)
        clear ho4 hg4
        refine ⟨rfl, hK _ _ hS ?_⟩
        clear hK K
        refine MixH.takes [false, false, false, false, false, false, false, false, false, true] 0 (by kernel_rfl) (by kernel_rfl) (by decide) (by kernel_rfl) hS (fun K hK => ?_)
        simp only [Mix.pick]
        repeat (go_big_quiet_step (fail))
        refine wpQuiet_nil (hK _ ?_)
        clear hK K
        refine MixH.done (by kernel_rfl) ?_
        have HS4 : Hid (Below w.heap.size w w4) := hS
        clear hS
        go_wp2
        go_roundw
        case rel => exact ⟨k + 1, c4, a4, HLT.out, by simp, by rw [← HK0.out], by rw [← HK0.out]; exact HR4.out, HS4.out⟩
        case measure => have := HLT.out; simp [intOf]; omega
    · have HE : Hid (k = 6) := by have := HK6.out; show k = 6; omega
      have p1 : decide ((k : Int) < 6) = false := decide_eq_false (by omega)
      have p2 : decide (k < 6) = false := decide_eq_false hlt
      have p3 : ¬ (k : Int) < 6 := by omega
      clear hlt
      obtain rfl := HE.out
      obtain rfl : n = 17 := by have := HN.out; omega
      have kc : (convert 50 9 (.slice a 17 c)).run Tryz.prog wr = .ok (.string (txB (prM m 6))) wr := by
        have h1 := HO.out.1
        unfold bV at h1
        rw [toI_map] at h1
        obtain ⟨a', c', e1, hs, _⟩ := owns_seg h1
        simp only [Value.slice.injEq] at e1
        obtain ⟨rfl, _, rfl⟩ := e1
        have h := conv_any wr a c (prM m 6) hs (prM_lt HM.out 6 (Nat.le_refl _))
        rw [prM_len] at h
        exact h
      have HBX2 : Hid (Below w.heap.size w wr) := HO.out.2
      clear HE HK6 HO HN p1 p2 p3
      go_wp2
      go_ret
      exact ⟨rfl, HBX2.out⟩
end Go.Proofs.YteldiggaooeeeaaGreatDoor
