/-
  Layer 15: the statements' less.
-/
import Derived.Test.YtialefdojeddjaaNgOp
namespace Go.Proofs.Ytialefdojeddjaa
open Go.RowKit Go.Maps

theorem cmp_pre : ∀ p l m : List UInt8, Lib.compareBytes (p ++ l) (p ++ m) = Lib.compareBytes l m
  | [], _, _ => rfl
  | a :: p, l, m => by
    simp only [List.cons_append, Lib.compareBytes]
    rw [if_neg (UInt8.lt_irrefl a), if_neg (UInt8.lt_irrefl a)]
    exact cmp_pre p l m
theorem by16_get (x : Nat → Nat) (i : Nat) (h : i < 16) : (by16 x)[i]? = some (UInt8.ofNat (x i)) := by
  simp [by16, Lib.bytesOf, toI, ipL, h]
theorem by16_take (x y : Nat → Nat) (i : Nat) (hi : i ≤ 16) (h : ∀ j, j < i → x j = y j) : (by16 x).take i = (by16 y).take i := by
  apply List.ext_getElem?
  intro j
  rw [List.getElem?_take, List.getElem?_take]
  split
  · rename_i hj
    rw [by16_get x j (by omega), by16_get y j (by omega), h j hj]
  · rfl
theorem cmp_at (x y : Nat → Nat) (i : Nat) (hi : i < 16) (h : ∀ j, j < i → x j = y j) (hx : x i < 256) (hy : y i < 256) (hne : x i ≠ y i) : Lib.compareBytes (by16 x) (by16 y) < 0 ↔ x i < y i := by
  have lx : (by16 x).length = 16 := by simp [by16, Lib.bytesOf, toI, ipL]
  have ly : (by16 y).length = 16 := by simp [by16, Lib.bytesOf, toI, ipL]
  have ex : by16 x = (by16 x).take i ++ (UInt8.ofNat (x i) :: (by16 x).drop (i + 1)) := by
    have h1 := by16_get x i hi
    rw [List.getElem?_eq_getElem (by omega)] at h1
    rw [← Option.some.inj h1, ← List.drop_eq_getElem_cons (by omega), List.take_append_drop]
  have ey : by16 y = (by16 y).take i ++ (UInt8.ofNat (y i) :: (by16 y).drop (i + 1)) := by
    have h1 := by16_get y i hi
    rw [List.getElem?_eq_getElem (by omega)] at h1
    rw [← Option.some.inj h1, ← List.drop_eq_getElem_cons (by omega), List.take_append_drop]
  rw [ex, ey, by16_take x y i (by omega) h, cmp_pre]
  have e1 : (UInt8.ofNat (x i)).toNat = x i := by simp; omega
  have e2 : (UInt8.ofNat (y i)).toNat = y i := by simp; omega
  simp only [Lib.compareBytes, UInt8.lt_iff_toNat_lt]
  rw [e1, e2]
  by_cases h1 : x i < y i
  · rw [if_pos h1]
    exact ⟨fun _ => h1, fun _ => by omega⟩
  · rw [if_neg h1, if_pos (show y i < x i by omega)]
    exact ⟨fun h => by omega, fun h => absurd h h1⟩
theorem cmp_all (x y : Nat → Nat) (h : ∀ j, j < 16 → x j = y j) : ¬ Lib.compareBytes (by16 x) (by16 y) < 0 := by
  have e := by16_take x y 16 (Nat.le_refl _) h
  have lx : (by16 x).length = 16 := by simp [by16, Lib.bytesOf, toI, ipL]
  have ly : (by16 y).length = 16 := by simp [by16, Lib.bytesOf, toI, ipL]
  rw [List.take_of_length_le (by omega), List.take_of_length_le (by omega)] at e
  have hs : ∀ l : List UInt8, Lib.compareBytes l l = 0 := fun l => by
    induction l with
    | nil => rfl
    | cons a l ih => simp [Lib.compareBytes, ih]
  rw [e, hs]
  omega
def LessP (k q : KV) (w : World) (e : Ending) (w' : World) : Prop := ∃ b, e = .returned (.bool b) ∧ (b = true ↔ lt3 k q) ∧ Below w.heap.size w w'
set_option maxHeartbeats 3200000 in
set_option maxRecDepth 100000 in
theorem less_any (k q : KV) (hk : k.Wf) (hq : q.Wf) (w : World) : Calls Try.prog 19 #[.int .i64 k.pt, .agg (ipCells k.V k.x), .int .i64 q.pt, .agg (ipCells q.V q.x)] w fun e w' => LessP k q w e w' := by
  obtain ⟨pk, V, x⟩ := k
  obtain ⟨pq, U, y⟩ := q
  have hi := ipr_new w V x
  have hi' := ipr_new (w.alloc (.cells (ipCells V x) 31)) U y
  rw [World.size_alloc] at hi'
  obtain ⟨Y, hY⟩ : ∃ Y, Y = (w.alloc (.cells (ipCells V x) 31)).alloc (.cells (ipCells U y) 31) := ⟨_, rfl⟩
  have bY : Below w.heap.size w Y := by rw [hY]; exact ((Below.refl _ _).alloc (Nat.le_refl _) _).alloc (by simp) _
  have hi2 : IprAt Y w.heap.size V x := by rw [hY]; exact hi.below ((Below.refl _ _).alloc (Nat.le_refl _) _)
  rw [← hY] at hi'
  obtain ⟨B, hB⟩ : ∃ B, B = w.heap.size := ⟨_, rfl⟩
  rw [← hB] at hi2 hi'
  obtain ⟨CI, hCI⟩ : ∃ C, C = ipCells V x := ⟨_, rfl⟩
  obtain ⟨CM, hCM⟩ : ∃ C, C = ipCells U y := ⟨_, rfl⟩
  have HX : Hid ((∀ i, i < 16 → x i < 256) ∧ ∀ i, i < 16 → y i < 256) := ⟨hk.x, hq.x⟩
  show Calls Try.prog 19 #[.int .i64 pk, .agg (ipCells V x), .int .i64 pq, .agg (ipCells U y)] w _
  rw [← hCI, ← hCM] at hY ⊢
  have HI : Hid (IprAt Y B V x ∧ IprAt Y (B + 1) U y) := ⟨hi2, hi'⟩
  have HW : Hid ((w.alloc (.cells CI 31)).alloc (.cells CM 31) = Y ∧ w.heap.size = B) := ⟨hY.symm, hB.symm⟩
  have HBY : Hid (Below w.heap.size w Y) := bY
  clear hi hi' hY bY hi2 hB hCI hCM hk hq
  go_enter Try.func19, Try.ntmps19
  go_upto_region 1 with fail
  rw [HW.out.1, HW.out.2]
  by_cases hp : pk = pq
  · subst hp
    have q1 : (pk != pk) = false := by simp
    have c0 : Y.cell? ⟨B, 0, none⟩ = some (.int .i64 V) := HI.out.1.cell 0
    have c1 : Y.cell? ⟨B + 1, 0, none⟩ = some (.int .i64 U) := HI.out.2.cell 0
    by_cases hV : V = U
    · subst hV
      have q2 : (V != V) = false := by simp
      go_wp2_with fail
      clear c0 c1
      go_loopw [9] (fun ix wr => ∃ i : Nat, ix = .int .i64 i ∧ i ≤ 16 ∧ Hid (Below Y.heap.size Y wr ∧ ∀ j, j < i → x j = y j)) (fun ix _ => 16 - (intOf ix).toNat)
      case atStart => exact ⟨0, rfl, by omega, Below.refl _ _, fun j hj => by omega⟩
      case round =>
        obtain ⟨i, rfl, hi, HR⟩ := hrel
        by_cases hlt : i < 16
        · have k1 : (i : Int) < 16 := by omega
          have k0 : (0 : Int) ≤ (i : Int) := by omega
          have k2 : ((i : Int)).toNat = i := by omega
          have wi : IntKind.i64.wrap ((i : Int) + 1) = (i : Int) + 1 := by rw [IntKind.wrap_i64]; omega
          obtain ⟨u, hu⟩ : ∃ u, u = x i := ⟨_, rfl⟩
          obtain ⟨v, hv⟩ : ∃ v, v = y i := ⟨_, rfl⟩
          have cu : wr.cell? ⟨B, 1 + i, none⟩ = some (.int .u8 (u : Nat)) := by rw [hu]; exact (HI.out.1.below HR.out.1).boxed.2 i hlt
          have cv : wr.cell? ⟨B + 1, 1 + i, none⟩ = some (.int .u8 (v : Nat)) := by rw [hv]; exact (HI.out.2.below HR.out.1).boxed.2 i hlt
          have HU : Hid (u = x i ∧ v = y i ∧ i < 16) := ⟨hu, hv, hlt⟩
          clear hu hv hi
          by_cases huv : u = v
          · subst huv
            have q3 : ((u : Int) != (u : Int)) = false := by simp
            go_wp2
            go_region
            go_wp2
            go_roundw
            case rel => exact ⟨i + 1, by first | rfl | go_num, by have := HU.out.2.2; omega, HR.out.1.drew, fun j hj => by
              by_cases h : j = i
              · rw [h, ← HU.out.1, ← HU.out.2.1]
              · exact HR.out.2 j (by omega)⟩
            case measure => have := HU.out.2.2; simp [intOf]; omega
          · have q3 : ((u : Int) != (v : Int)) = true := by rw [bne_iff_ne]; omega
            have HN : Hid (u ≠ v) := huv
            clear huv
            have HL : Hid (u < v ↔ Lib.compareBytes (by16 x) (by16 y) < 0) := by
              have h := HU.out
              have := cmp_at x y i h.2.2 HR.out.2 (HX.out.1 i h.2.2) (HX.out.2 i h.2.2) (by rw [← h.1, ← h.2.1]; exact HN.out)
              rw [← h.1, ← h.2.1] at this
              exact this.symm
            go_wp2
            go_region
            go_wp2
            go_region
            go_wp2
            go_ret
            refine ⟨decide (u < v), rfl, ?_, (bthen HBY.out HR.out.1).drew.drew⟩
            rw [decide_eq_true_eq]
            unfold lt3 cB
            constructor
            · intro h
              exact .inr ⟨rfl, .inr ⟨rfl, HL.out.1 (by omega)⟩⟩
            · rintro (h | ⟨_, h | ⟨_, h⟩⟩)
              · exact absurd h (Int.lt_irrefl _)
              · exact absurd h (Int.lt_irrefl _)
              · have := HL.out.2 h; omega
        · have hni : ¬ ((i : Int) < 16) := by omega
          have h16 : i = 16 := by omega
          subst h16
          have HA : Hid (¬ Lib.compareBytes (by16 x) (by16 y) < 0) := cmp_all x y HR.out.2
          go_wp2
          go_ret
          refine ⟨false, rfl, ?_, bthen HBY.out HR.out.1⟩
          constructor
          · intro h; cases h
          · rintro (h | ⟨_, h | ⟨_, h⟩⟩)
            · exact absurd h (Int.lt_irrefl _)
            · exact absurd h (Int.lt_irrefl _)
            · have h2 : Lib.compareBytes (by16 x) (by16 y) < 0 := h; have := HA.out; omega
    · have q2 : (V != U) = true := by simpa using hV
      obtain ⟨bb, hbb⟩ : ∃ bb, decide (V < U) = bb := ⟨_, rfl⟩
      have HBB : Hid (decide (V < U) = bb) := hbb
      have HV : Hid (V ≠ U) := hV
      clear hV
      go_wp2_with fail
      go_ret
      refine ⟨bb, rfl, ?_, HBY.out⟩
      rw [← HBB.out, decide_eq_true_eq]
      constructor
      · intro h
        exact .inr ⟨rfl, .inl h⟩
      · rintro (h | ⟨_, h | ⟨h, _⟩⟩)
        · exact absurd h (Int.lt_irrefl _)
        · exact h
        · exact absurd h HV.out
  · have q1 : (pk != pq) = true := by simpa using hp
    obtain ⟨bb, hbb⟩ : ∃ bb, decide (pk < pq) = bb := ⟨_, rfl⟩
    have HBB : Hid (decide (pk < pq) = bb) := hbb
    have HP : Hid (pk ≠ pq) := hp
    clear hp
    go_wp2_with fail
    go_ret
    refine ⟨bb, rfl, ?_, HBY.out⟩
    rw [← HBB.out, decide_eq_true_eq]
    constructor
    · intro h
      exact .inl h
    · rintro (h | ⟨h, _⟩)
      · exact h
      · exact absurd h HP.out
end Go.Proofs.Ytialefdojeddjaa
