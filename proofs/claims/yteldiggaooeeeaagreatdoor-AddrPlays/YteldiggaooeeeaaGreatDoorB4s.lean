/-
  weirref4: Less.
-/
import Derived.Test.YteldiggaooeeeaaGreatDoorB4r
import Derived.Test.YteldiggaooeeeaaGreatDoorAdLe
import Derived.Test.YteldiggaooeeeaaGreatDoorZg
namespace Go.Proofs.YteldiggaooeeeaaGreatDoor
open Go.RowKit Go.Maps

theorem cmp_pre (a b : List UInt8) : ∀ p : List UInt8, Lib.compareBytes (p ++ a) (p ++ b) = Lib.compareBytes a b
  | [] => rfl
  | c :: p => by
    rw [List.cons_append, List.cons_append]
    simp only [Lib.compareBytes]
    rw [if_neg (UInt8.lt_irrefl c), if_neg (UInt8.lt_irrefl c)]
    exact cmp_pre a b p
theorem by16_at (x : Nat → Nat) {i : Nat} (h : i < 16) : by16 x = (by16 x).take i ++ UInt8.ofNat (x i) :: (by16 x).drop (i + 1) := by
  have hl : i < (by16 x).length := by rw [by16_len]; exact h
  conv => lhs; rw [← List.take_append_drop i (by16 x), List.drop_eq_getElem_cons hl]
  congr 2
  simp [by16, Lib.bytesOf, toI, ipL]
theorem by16_take {x y : Nat → Nat} {i : Nat} (h : ∀ k, k < i → x k = y k) : (by16 x).take i = (by16 y).take i := by
  apply List.ext_getElem?
  intro k
  rw [List.getElem?_take, List.getElem?_take]
  by_cases hk : k < i
  · rw [if_pos hk, if_pos hk]
    by_cases h16 : k < 16
    · simp [by16, Lib.bytesOf, toI, ipL, h16, h k hk]
    · rw [List.getElem?_eq_none (by rw [by16_len]; omega), List.getElem?_eq_none (by rw [by16_len]; omega)]
  · rw [if_neg hk, if_neg hk]
theorem u8_lt {a b : Nat} (ha : a < 256) (hb : b < 256) : (UInt8.ofNat a < UInt8.ofNat b) ↔ a < b := by
  rw [UInt8.lt_iff_toNat_lt]
  simp
  rw [Nat.mod_eq_of_lt ha, Nat.mod_eq_of_lt hb]
theorem less_at {V : Int} {x y : Nat → Nat} {i : Nat} (hi : i < 16) (h : ∀ k, k < i → x k = y k) (hx : x i < 256) (hy : y i < 256) (hne : x i ≠ y i) : lessB V V x y = decide (x i < y i) := by
  have key : Lib.compareBytes (by16 x) (by16 y) = if x i < y i then -1 else 1 := by
    rw [by16_at x hi, by16_at y hi, by16_take h, cmp_pre]
    simp only [Lib.compareBytes]
    by_cases h1 : x i < y i
    · rw [if_pos ((u8_lt hx hy).2 h1), if_pos h1]
    · rw [if_neg (fun e => h1 ((u8_lt hx hy).1 e)), if_pos ((u8_lt hy hx).2 (by omega)), if_neg h1]
  unfold lessB
  rw [if_pos rfl, key]
  by_cases h1 : x i < y i
  · rw [if_pos h1, decide_eq_true h1]
    rfl
  · rw [if_neg h1, decide_eq_false h1]
    rfl
theorem less_all {V : Int} {x y : Nat → Nat} (h : ∀ k, k < 16 → x k = y k) : lessB V V x y = false := by
  unfold lessB
  rw [if_pos rfl, same_by16 x y ((same16_iff x y).2 h), cmp_self]
  rfl
theorem less_ver {V U : Int} {x y : Nat → Nat} (h : V ≠ U) : lessB V U x y = decide (V < U) := by unfold lessB; rw [if_neg h]
set_option maxHeartbeats 1600000 in
set_option maxRecDepth 100000 in
theorem lessR_any (V U : Int) (x y : Nat → Nat) (w : World) (hx : ∀ i, i < 16 → x i < 256) (hy : ∀ i, i < 16 → y i < 256) : Calls Tryz.prog 61 #[.agg (ipCells V x), .agg (ipCells U y)] w fun r w' => r = .returned (.bool (lessB V U x y)) ∧ Below w.heap.size w w' := by
  have HX : Hid (∀ i, i < 16 → x i < 256) := hx
  have HY : Hid (∀ i, i < 16 → y i < 256) := hy
  clear hx hy
  go_enter Tryz.func61, Tryz.ntmps61
  go_wp2_with (refine wpList_box_ipN (.tmp 0) rfl V x rfl rfl ?_)
  intro B W1 HB1 hI bI
  go_wp2_with (refine wpList_box_ipN (.tmp 1) rfl U y rfl rfl ?_)
  intro D W2 HD1 hD bD
  have H2 : Hid (IprAt W2 B V x ∧ IprAt W2 D U y ∧ Below w.heap.size w W2) := ⟨hI.below bD, hD, bthen bI bD⟩
  clear hI bI hD bD HB1 HD1
  have k0 : W2.cell? ⟨B, 0, none⟩ = some (.int .i64 V) := H2.out.1.cell 0
  have k1 : W2.cell? ⟨D, 0, none⟩ = some (.int .i64 U) := H2.out.2.1.cell 0
  by_cases hvu : V = U
  · subst hvu
    have q0 : (V == V) = true := beq_self_eq_true V
    have q1 : (V != V) = false := by simp
    go_wp2
    clear k0 k1
    go_loopw [5] (fun iv wr => ∃ i : Nat, i ≤ 16 ∧ iv = .int .i64 (i : Nat) ∧ Hid ((∀ k, k < i → x k = y k) ∧ IprAt wr B V x ∧ IprAt wr D V y ∧ Below w.heap.size w wr)) (fun iv _ => 16 - (intOf iv).toNat)
    case atStart => exact ⟨0, by omega, rfl, fun k h => by omega, H2.out⟩
    case round =>
      obtain ⟨i, hi, rfl, HF⟩ := hrel
      by_cases hil : i < 16
      · have p1 : decide ((i : Int) < 16) = true := decide_eq_true (by omega)
        have p2 : (i : Int) < 16 := by omega
        have z3 : IntKind.i64.wrap ((i : Int) + 1) = (i : Int) + 1 := i64_s _ (by omega) (by omega)
        have HI : Hid (i < 16) := hil
        clear hil hi
        go_upto_region 6 with fail
        refine MixH.start (fun A => IprAt A B V x ∧ IprAt A D V y ∧ Below w.heap.size w A) (by kernel_rfl) ?_
        obtain ⟨wA, hwA⟩ : ∃ W_, W_ = wr.drew := ⟨_, rfl⟩
        have bdr : Below wr.heap.size wr wA := by rw [hwA]; exact (Below.refl _ _).drew
        have hS : IprAt wA B V x ∧ IprAt wA D V y ∧ Below w.heap.size w wA := ⟨HF.out.2.1.below bdr, HF.out.2.2.1.below bdr, HF.out.2.2.2.trans (bdr.mono HF.out.2.2.2.size)⟩
        rw [← hwA]
        clear hwA bdr
        refine MixH.takes [true, true, true, false, true, true, true] 3 (by kernel_rfl) (by kernel_rfl) (by decide) (by kernel_rfl) hS (fun K hK => ?_)
        simp only [Mix.pick]
        repeat (go_big_quiet_step (fail))
        refine wpQuiet_nil (hK _ ?_)
        clear hK K
        refine MixH.take 2 3 _ (.int .u8 (x i : Nat)) rfl (by kernel_rfl) (by kernel_rfl) (by kernel_rfl) (by kernel_rfl) (yields_by4 (.tmp 22) rfl ⟨B, 1 + i, none⟩ (.int .u8 (x i : Nat)) rfl rfl (fun A hA => hA.1.byte i (by omega))) hS (fun a' ha => ?_)
        simp only [Act.put, List.setIfInBounds_toArray, List.set_cons_succ, List.set_cons_zero] at ha
        subst ha
        refine MixH.take 1 7 _ (.int .u8 (y i : Nat)) rfl (by kernel_rfl) (by kernel_rfl) (by kernel_rfl) (by kernel_rfl) (yields_by4 (.tmp 26) rfl ⟨D, 1 + i, none⟩ (.int .u8 (y i : Nat)) rfl rfl (fun A hA => hA.2.1.byte i (by omega))) hS (fun a' ha => ?_)
        simp only [Act.put, List.setIfInBounds_toArray, List.set_cons_succ, List.set_cons_zero] at ha
        subst ha
        refine MixH.takes [false, false, false, false, false, false, false, false, true] 0 (by kernel_rfl) (by kernel_rfl) (by decide) (by kernel_rfl) hS (fun K hK => ?_)
        simp only [Mix.pick]
        repeat (go_big_quiet_step (fail))
        refine wpQuiet_nil (hK _ ?_)
        clear hK K
        refine MixH.done (by kernel_rfl) ?_
        have HS6 : Hid (IprAt wA B V x ∧ IprAt wA D V y ∧ Below w.heap.size w wA) := hS
        clear hS
        by_cases he : x i = y i
        · have e1 : (((x i : Nat) : Int) != ((y i : Nat) : Int)) = false := by rw [he]; simp
          have HE : Hid (∀ k, k < i + 1 → x k = y k) := by
            intro k hk
            by_cases h : k = i
            · rw [h]; exact he
            · exact HF.out.1 k (by omega)
          have e2 : ((x i : Nat) : Int) = ((y i : Nat) : Int) := by rw [he]
          clear he
          go_wp2
          go_roundw
          case rel => exact ⟨i + 1, HI.out, by simp, HE.out, HS6.out⟩
          case measure => have := HI.out; simp [intOf]; omega
        · have e1 : (((x i : Nat) : Int) != ((y i : Nat) : Int)) = true := by simp; omega
          have e2 : ¬ ((x i : Nat) : Int) = ((y i : Nat) : Int) := by omega
          have e3 : ¬ x i = y i := he
          have HE : Hid (lessB V V x y = decide (x i < y i)) := less_at HI.out HF.out.1 (HX.out i HI.out) (HY.out i HI.out) he
          clear he
          go_upto_region 7 with fail
          refine MixH.start (fun A => IprAt A B V x ∧ IprAt A D V y ∧ Below w.heap.size w A) (by kernel_rfl) ?_
          obtain ⟨wB, hwA⟩ : ∃ W_, W_ = wA.drew := ⟨_, rfl⟩
          have bdr : Below wA.heap.size wA wB := by rw [hwA]; exact (Below.refl _ _).drew
          have hS : IprAt wB B V x ∧ IprAt wB D V y ∧ Below w.heap.size w wB := ⟨HS6.out.1.below bdr, HS6.out.2.1.below bdr, HS6.out.2.2.trans (bdr.mono HS6.out.2.2.size)⟩
          rw [← hwA]
          clear hwA bdr
          refine MixH.takes [true, true, true, false, true, true, true] 4 (by kernel_rfl) (by kernel_rfl) (by decide) (by kernel_rfl) hS (fun K hK => ?_)
          simp only [Mix.pick]
          repeat (go_big_quiet_step (fail))
          refine wpQuiet_nil (hK _ ?_)
          clear hK K
          refine MixH.take 3 3 _ (.int .u8 (x i : Nat)) rfl (by kernel_rfl) (by kernel_rfl) (by kernel_rfl) (by kernel_rfl) (yields_by4 (.tmp 31) rfl ⟨B, 1 + i, none⟩ (.int .u8 (x i : Nat)) rfl rfl (fun A hA => hA.1.byte i (by omega))) hS (fun a' ha => ?_)
          simp only [Act.put, List.setIfInBounds_toArray, List.set_cons_succ, List.set_cons_zero] at ha
          subst ha
          refine MixH.take 2 7 _ (.int .u8 (y i : Nat)) rfl (by kernel_rfl) (by kernel_rfl) (by kernel_rfl) (by kernel_rfl) (yields_by4 (.tmp 35) rfl ⟨D, 1 + i, none⟩ (.int .u8 (y i : Nat)) rfl rfl (fun A hA => hA.2.1.byte i (by omega))) hS (fun a' ha => ?_)
          simp only [Act.put, List.setIfInBounds_toArray, List.set_cons_succ, List.set_cons_zero] at ha
          subst ha
          refine MixH.takes [false, false, false, false, false, false, false, false, true, true] 0 (by kernel_rfl) (by kernel_rfl) (by decide) (by kernel_rfl) hS (fun K hK => ?_)
          simp only [Mix.pick]
          repeat (go_big_quiet_step (fail))
          refine wpQuiet_nil (hK _ ?_)
          clear hK K
          refine MixH.done (by kernel_rfl) ?_
          have HS7 : Hid (IprAt wB B V x ∧ IprAt wB D V y ∧ Below w.heap.size w wB) := hS
          clear hS
          go_wp2
          go_ret
          exact ⟨by rw [HE.out]; simp, HS7.out.2.2⟩
      · have HE : Hid (lessB V V x y = false) := less_all (fun k hk => HF.out.1 k (by omega))
        have p1 : decide ((i : Int) < 16) = false := decide_eq_false (by omega)
        have p2 : ¬ (i : Int) < 16 := by omega
        clear hil
        go_wp2
        go_ret
        exact ⟨by rw [HE.out]; rfl, HF.out.2.2.2⟩
  · have q0 : (V == U) = false := by simp [hvu]
    have q1 : (V != U) = true := by simp [hvu]
    have HE : Hid (lessB V U x y = decide (V < U)) := less_ver hvu
    go_wp2
    go_ret
    exact ⟨by rw [HE.out]; simp, H2.out.2.2⟩
end Go.Proofs.YteldiggaooeeeaaGreatDoor
