/-
  Layer 4: math/bits.TrailingZeros64 at 16, strconv.FormatInt at base 16.
-/
import Derived.Test.YteldiggaooeeeaaGreatDoorAdOp
import Derived.Laws.BitsAllLaws
namespace Go.Proofs.YteldiggaooeeeaaGreatDoor
open Go.RowKit Go.Maps

set_option maxHeartbeats 1600000 in
set_option maxRecDepth 100000 in
theorem tz_any (w : World) (hd : Deb w) : Calls Tryz.prog 121 #[.int .u64 16] w fun r w' => r = .returned (.int .i64 4) ∧ w = w' := by
  have c : w.cell? ⟨4, 15, none⟩ = some (.int .u8 4) := hd.cell Tryz.g64 15 (by decide)
  have z1 : IntKind.u64.wrap (bits BinOp.and IntKind.u64 16 (IntKind.u64.wrap (-16)) * 285870213051353865) / 288230376151711744 = 15 := by decide +kernel
  clear hd
  go_enter Tryz.func121, Tryz.ntmps121
  go_wp2
  go_ret
  exact ⟨rfl, rfl⟩
set_option maxHeartbeats 1600000 in
set_option maxRecDepth 100000 in
theorem tzs_any (w : World) (hd : Deb w) : Calls Tryz.prog 118 #[.int .u64 16] w fun r w' => r = .returned (.int .i64 4) ∧ w = w' := by
  have HD : Hid (Deb w) := hd
  clear hd
  go_enter Tryz.func118, Tryz.ntmps118
  go_wp2_with fail
  refine (tz_any w HD.out).mono ?_
  rintro e wz ⟨rfl, rfl⟩
  go_wp2
  go_ret
  exact ⟨rfl, rfl⟩
set_option maxHeartbeats 1600000 in
set_option maxRecDepth 100000 in
theorem pow2_any (w : World) : Calls Tryz.prog 117 #[.int .i64 16] w fun r w' => r = .returned (.bool true) ∧ w = w' := by
  have b1 : bits BinOp.and IntKind.i64 16 15 = 0 := by decide +kernel
  go_enter Tryz.func117, Tryz.ntmps117
  go_wp2
  go_ret
  exact ⟨rfl, rfl⟩
/-- the digits that the library writes -/
def dgS : ByteArray := ⟨#[48, 49, 50, 51, 52, 53, 54, 55, 56, 57, 97, 98, 99, 100, 101, 102, 103, 104, 105, 106, 107, 108, 109, 110, 111, 112, 113, 114, 115, 116, 117, 118, 119, 120, 121, 122]⟩
theorem dgS_at {k : Nat} (h : k < 16) : sB dgS k = hd k := by
  have : ∀ i : Fin 16, sB dgS i.val = hd i.val := by decide +kernel
  exact this ⟨k, h⟩
theorem hd_lt {k : Nat} (h : k < 16) : hd k < 256 := by unfold hd; split <;> omega
theorem wpList_sBu {ops : Array Oper} {rest : List Oper} {o : Oper} {a : Act} {w : World} {Q : Exit → Act → World → Prop} (x y : Operand) (ho : o.op = .index 9 x y) (k : IntKind) (s : ByteArray) (p : Nat) (z : Int) (hx : a.eval x = .string s) (hy : a.eval y = .int k z) (hz : z = (p : Int)) (hp : p < s.size) (hw : Region.wanted o (yielded ops a.tmps) = true)
    (h : wpList Tryz.prog ops Q rest (a.put o.dst (.int .u8 (sB s p : Nat))) w) : wpList Tryz.prog ops Q (o :: rest) a w := by
  refine wpList_step fun K hK => ?_
  rw [if_pos hw]
  have hrun : (execOp a.eval o).run Tryz.prog w = .ok (.value (.int .u8 (sB s p : Nat))) w := by
    obtain ⟨dst, op, type, pos, after, guard⟩ := o
    simp only at ho
    subst ho
    simp only [execOp, Sem.run_bind, hx, hy, hz]
    rw [run_index_string w 9 s k (p : Int) Tryz.underlying9, dif_pos (by omega)]
    simp only [Result.andThen_ok, Int.toNat_natCast, sB_get s p hp]
    rfl
  unfold Oper.wp
  rw [hrun]
  exact hK _ _ h
theorem and15 (u : Nat) (h : u < 65536) : bits BinOp.and IntKind.u64 (u : Int) 15 = ((u % 16 : Nat) : Int) := by
  have h1 := Go.u64_and_nat u 15 (by omega) (by omega)
  rw [show ((15 : Nat) : Int) = 15 from rfl] at h1
  rw [h1]
  congr 1
  exact Nat.and_two_pow_sub_one_eq_mod u 4
theorem shr4 (u : Nat) : (u : Int).fdiv (2 ^ min (Int.toNat 4) IntKind.u64.bits) = ((u / 16 : Nat) : Int) := by
  rw [show (2 ^ min (Int.toNat 4) IntKind.u64.bits : Int) = 16 from rfl, Int.fdiv_eq_ediv_of_nonneg _ (by omega)]
  omega
theorem hexL_big {v : Nat} (h : 16 ≤ v) (hv : v < 65536) : hexL v = hexL (v / 16) ++ [hd (v % 16)] := by
  unfold hexL
  rw [if_neg (by omega)]
  by_cases h1 : v < 256
  · rw [if_pos h1, if_pos (by omega)]; rfl
  · rw [if_neg h1, if_neg (show ¬ v / 16 < 16 by omega)]
    by_cases h2 : v < 4096
    · rw [if_pos h2, if_pos (by omega), Nat.div_div_eq_div_mul]
      rfl
    · rw [if_neg h2, if_neg (show ¬ v / 16 < 256 by omega), if_pos (by omega), Nat.div_div_eq_div_mul, Nat.div_div_eq_div_mul]
      rfl
theorem hexL_one {v : Nat} (h : v < 16) : hexL v = [hd v] := by unfold hexL; rw [if_pos h]
theorem hexL_hi (v : Nat) : (hexL v).length ≤ 4 := by unfold hexL; split <;> (try split) <;> (try split) <;> simp
theorem hexL_lt {v : Nat} (h : v < 65536) : ∀ x ∈ hexL v, x < 256 := fun x hx => by
  have := (hexL_grp h).hx x hx
  unfold hxB wth dgB at this
  simp at this
  refine Nat.lt_of_not_le fun hge => ?_
  rw [if_neg (by omega), if_neg (by omega), if_neg (by omega)] at this
  omega
/-- the last cells of a block are these bytes -/
def Tl (w : World) (A : Nat) (t : List Nat) : Prop := ∃ C : Array Value, w.heap[A]? = some (.cells C 157 (0, 0)) ∧ C.size = 65 ∧ C.toList.drop (65 - t.length) = t.map fun n => Value.int .u8 (n : Nat)
theorem Tl.lt {w : World} {A : Nat} {t : List Nat} (h : Tl w A t) : A < w.heap.size := by obtain ⟨C, h1, _⟩ := h; exact (Array.getElem?_eq_some_iff.1 h1).1
theorem Tl.cell {w : World} {A : Nat} {t : List Nat} (h : Tl w A t) (i : Nat) (hi : i < 65) : ∃ v, w.cell? ⟨A, i, none⟩ = some v := by
  obtain ⟨C, h1, h2, _⟩ := h
  exact ⟨C[i], by simp [World.cell?, h1]⟩
theorem Tl.fz {w : World} {A : Nat} {t : List Nat} (h : Tl w A t) (i : Nat) : w.frozen? ⟨A, i, none⟩ = false := by obtain ⟨C, h1, _⟩ := h; simp [World.frozen?, h1]
theorem Tl.below {w w' : World} {A : Nat} {t : List Nat} (h : Tl w A t) (b : Below w.heap.size w w') : Tl w' A t := by obtain ⟨C, h1, h2⟩ := h; exact ⟨C, (b.block A (Array.getElem?_eq_some_iff.1 h1).1).trans h1, h2⟩
theorem Tl.set {w : World} {A : Nat} {t : List Nat} (h : Tl w A t) (n : Nat) (ht : t.length < 65) : Tl (w.setCell ⟨A, 64 - t.length, none⟩ (.int .u8 (n : Nat))) A (n :: t) := by
  obtain ⟨C, h1, h2, h3⟩ := h
  refine ⟨C.setIfInBounds (64 - t.length) (.int .u8 (n : Nat)), heap_setCell_same w A (64 - t.length) C _ _ h1, by simpa using h2, ?_⟩
  have hl : 64 - t.length < (C.setIfInBounds (64 - t.length) (.int .u8 (n : Nat))).toList.length := by simp; omega
  rw [List.length_cons, show 65 - (t.length + 1) = 64 - t.length by omega, List.drop_eq_getElem_cons hl]
  simp only [List.map_cons]
  congr 1
  · simp
  · rw [Array.toList_setIfInBounds, List.drop_set_of_lt (by omega), show 64 - t.length + 1 = 65 - t.length by omega]
    exact h3
theorem Tl.seg {w : World} {A : Nat} {t : List Nat} (h : Tl w A t) : Seg .u8 w (some ⟨A, 65 - t.length, none⟩) (toI t) := by
  obtain ⟨C, h1, h2, h3⟩ := h
  refine .inr ⟨A, 65 - t.length, rfl, fun j hj => ?_⟩
  rw [toI_len] at hj
  have h4 : C[65 - t.length + j]? = some (.int .u8 (t.getD j 0 : Nat)) := by
    have h5 := congrArg (fun l => l[j]?) h3
    simp only [List.getElem?_drop, List.getElem?_map] at h5
    rw [← Array.getElem?_toList, h5, List.getD_eq_getElem?_getD, List.getElem?_eq_getElem hj]
    rfl
  rw [toI_getD]
  simp only [World.cell?, h1]
  exact h4
set_option maxHeartbeats 1600000 in
set_option maxRecDepth 100000 in
theorem fbits_any (v : Nat) (w : World) (hv : v < 65536) (hd : Deb w) : Calls Tryz.prog 103 #[.slice none 0 0, .int .u64 (v : Nat), .int .i64 16, .bool false, .bool false] w fun r w' => r = .returned (.tuple #[.slice none 0 0, .string (txB (hexL v))]) ∧ Below w.heap.size w w' := by
  have HD : Hid (Deb w) := hd
  have HV : Hid (v < 65536) := hv
  clear hd hv
  go_enter Tryz.func103, Tryz.ntmps103
  go_upto_region 7 with fail
  obtain ⟨A, hA⟩ : ∃ A, A = w.heap.size := ⟨_, rfl⟩
  obtain ⟨W, hW⟩ : ∃ W, W = w.alloc (.cells Tryz.zeroCells157 157) := ⟨_, rfl⟩
  have H0 : Hid (Tl W A [] ∧ Below w.heap.size w W) := by
    rw [hW, hA]
    have hsz : Tryz.zeroCells157.size = 65 := by kernel_rfl
    exact ⟨⟨_, heap_alloc_new _ _, hsz, by simp [hsz]⟩, (Below.refl _ _).alloc (Nat.le_refl _) _⟩
  have HA : Hid (w.heap.size = A) := hA.symm
  rw [← hW, ← hA]
  clear hW hA
  go_wp2_with fail
  refine (pow2_any W).mono ?_
  rintro e wz ⟨rfl, rfl⟩
  go_wp2_with fail
  refine (tzs_any W (HD.out.below H0.out.2)).mono ?_
  rintro e wz ⟨rfl, rfl⟩
  go_wp2
  go_loopw [1, 13] (fun uv iv wr => ∃ (u i : Nat) (t : List Nat), u < 65536 ∧ i ≤ 64 ∧ uv = .int .u64 (u : Nat) ∧ iv = .int .i64 ((i : Int) + 1) ∧ Hid (t.length + i = 64 ∧ hexL v = hexL u ++ t) ∧ Hid (Tl wr A t ∧ Below w.heap.size w wr)) (fun uv _ _ => (intOf uv).toNat)
  case atStart => exact ⟨v, 64, [], HV.out, by omega, rfl, rfl, ⟨rfl, by simp⟩, H0.out⟩
  case round =>
    obtain ⟨u, i, t, hu, hi, rfl, rfl, HI, HT⟩ := hrel
    have HU : Hid (u < 65536 ∧ i ≤ 64) := ⟨hu, hi⟩
    have x1 : IntKind.i64.wrap ((i : Int) + 1 - 1) = (i : Int) := by rw [Int.add_sub_cancel]; exact i64_s _ (by omega) (by omega)
    clear hu hi
    have HTL : Hid (t.length < 4) := by
      have h1 := hexL_hi v
      have h2 := (hexL_grp HU.out.1).lo
      rw [HI.out.2, List.length_append] at h1
      show _ < _
      omega
    have b1 : (0 : Int) ≤ (i : Int) := by omega
    have b2 : (i : Int) < 65 := by have := HU.out; omega
    have b3 : i < 65 := by have := HU.out; omega
    by_cases h16 : 16 ≤ u
    · have q1 : decide ((16 : Int) ≤ (u : Int)) = true := decide_eq_true (by omega)
      have q2 : decide (16 ≤ u) = true := decide_eq_true h16
      have q3 : (16 : Int) ≤ (u : Int) := by omega
      have H16 : Hid (16 ≤ u) := h16
      have a1 := and15 u HU.out.1
      have s1 : (u : Int).fdiv (2 ^ min (Int.toNat 4) IntKind.u64.bits) = ((u / 16 : Nat) : Int) := shr4 u
      have HK : Hid (u % 16 < 36 ∧ sB dgS (u % 16) = hd (u % 16)) := ⟨by omega, dgS_at (by omega)⟩
      obtain ⟨z, hz⟩ := HT.out.1.cell i b3
      have fz := HT.out.1.fz i
      have hset := HT.out.1.set (sB dgS (u % 16)) (by have := HTL.out; omega)
      rw [show 64 - t.length = i by have := HI.out.1; omega] at hset
      have HS : Hid (Tl (wr.setCell ⟨A, i, none⟩ (.int .u8 (sB dgS (u % 16) : Nat))) A (sB dgS (u % 16) :: t) ∧ Below w.heap.size w (wr.setCell ⟨A, i, none⟩ (.int .u8 (sB dgS (u % 16) : Nat)))) := ⟨hset, HT.out.2.trans (((Ch.refl (fun k => k = A) wr).set ⟨A, i, none⟩ _ rfl).below (fun q h => by have h' : q = A := h; have := HA.out; omega) HT.out.2.size)⟩
      clear hset h16
      go_wp2_with (refine wpList_sBu (.const (.string dgS)) (.tmp 52) rfl .u64 dgS (u % 16) _ rfl rfl rfl HK.out.1 rfl ?_)
      go_roundw
      case rel => exact ⟨u / 16, i - 1, sB dgS (u % 16) :: t, by have := HU.out; omega, by have := HU.out; omega, rfl, by have h1 := HTL.out; have h2 := HI.out.1; congr 1; omega, ⟨by have h1 := HTL.out; have h2 := HI.out.1; rw [List.length_cons]; omega, by rw [HI.out.2, hexL_big H16.out HU.out.1, HK.out.2]; simp⟩, HS.out⟩
      case measure => have := H16.out; simp [intOf]; omega
    · have q1 : decide ((16 : Int) ≤ (u : Int)) = false := decide_eq_false (by omega)
      have q2 : decide (16 ≤ u) = false := decide_eq_false h16
      have q3 : ¬ (16 : Int) ≤ (u : Int) := by omega
      have al : Tryz.prog.arrayLen 157 = 65 := by kernel_rfl
      have b4 : (i : Int) ≤ 65 := by omega
      have HK : Hid (u < 36 ∧ sB dgS u = hd u ∧ u < 16) := ⟨by omega, dgS_at (by omega), by omega⟩
      obtain ⟨z, hz⟩ := HT.out.1.cell i b3
      have fz := HT.out.1.fz i
      have hset := HT.out.1.set (sB dgS u) (by have := HTL.out; omega)
      rw [show 64 - t.length = i by have := HI.out.1; omega] at hset
      have HL : Hid ((sB dgS u :: t).length = 65 - i ∧ sB dgS u :: t = hexL v) := ⟨by have := HI.out.1; rw [List.length_cons]; omega, by rw [HI.out.2, hexL_one HK.out.2.2, HK.out.2.1]; rfl⟩
      have kc : (convert 50 9 (.slice (some ⟨A, i, none⟩) (65 - i) (65 - i))).run Tryz.prog (wr.setCell ⟨A, i, none⟩ (.int .u8 (sB dgS u : Nat))) = .ok (.string (txB (hexL v))) (wr.setCell ⟨A, i, none⟩ (.int .u8 (sB dgS u : Nat))) := by
        have h := conv_any _ _ (65 - i) (hexL v) (by have h1 := hset.seg; rw [HL.out.1, show 65 - (65 - i) = i by omega, HL.out.2] at h1; exact h1) (hexL_lt HV.out)
        rw [← HL.out.2, HL.out.1] at h
        rw [← HL.out.2]
        exact h
      have HS : Hid (Below w.heap.size w (wr.setCell ⟨A, i, none⟩ (.int .u8 (sB dgS u : Nat)))) := HT.out.2.trans (((Ch.refl (fun k => k = A) wr).set ⟨A, i, none⟩ _ rfl).below (fun q h => by have h' : q = A := h; have := HA.out; omega) HT.out.2.size)
      clear hset h16
      go_wp2_with (refine wpList_sBu (.const (.string dgS)) (.tmp 61) rfl .u64 dgS u _ rfl rfl rfl HK.out.1 rfl ?_)
      refine bodyPost_ret (results_tmp2 rfl _ _ _) rfl ?_
      exact ⟨rfl, HS.out⟩
set_option maxHeartbeats 1600000 in
set_option maxRecDepth 100000 in
theorem ifmt_any (v : Nat) (w : World) (hv : v < 65536) (hd : Deb w) : Calls Tryz.prog 73 #[.int .i64 (v : Nat), .int .i64 16] w fun r w' => r = .returned (.string (txB (hexL v))) ∧ Below w.heap.size w w' := by
  have HD : Hid (Deb w) := hd
  have HV : Hid (v < 65536) := hv
  have x1 : IntKind.u64.wrap (v : Int) = (v : Int) := by have : IntKind.u64.wrap (v : Int) = (v : Int) % 18446744073709551616 := rfl; rw [this]; omega
  have q1 : decide ((v : Int) < 0) = false := decide_eq_false (by omega)
  clear hd hv
  go_enter Tryz.func73, Tryz.ntmps73
  go_wp2_with fail
  refine (fbits_any v w HV.out HD.out).mono ?_
  rintro e w1 ⟨rfl, hb⟩
  have HB : Hid (Below w.heap.size w w1) := hb
  clear hb
  go_wp2
  go_ret
  exact ⟨rfl, HB.out⟩
set_option maxHeartbeats 1600000 in
set_option maxRecDepth 100000 in
theorem fmt_any (v : Nat) (w : World) (hv : v < 65536) (hd : Deb w) : Calls Tryz.prog 40 #[.int .i64 (v : Nat), .int .i64 16] w fun r w' => r = .returned (.string (txB (hexL v))) ∧ Below w.heap.size w w' := by
  have HD : Hid (Deb w) := hd
  have HV : Hid (v < 65536) := hv
  clear hd hv
  go_enter Tryz.func40, Tryz.ntmps40
  go_wp2_with fail
  refine (ifmt_any v w HV.out HD.out).mono ?_
  rintro e w1 ⟨rfl, hb⟩
  have HB : Hid (Below w.heap.size w w1) := hb
  clear hb
  go_wp2
  go_ret
  exact ⟨rfl, HB.out⟩
end Go.Proofs.YteldiggaooeeeaaGreatDoor
