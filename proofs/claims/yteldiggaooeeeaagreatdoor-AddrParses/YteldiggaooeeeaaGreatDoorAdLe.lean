/-
  addr.Less: by version, then by the sixteen bytes.
-/
import Derived.Test.YteldiggaooeeeaaGreatDoorAdFn1
import Derived.Lib.BytesEntry
import Derived.Deep.RegionWith
namespace Go.Proofs.YteldiggaooeeeaaGreatDoor
open Go.RowKit

/-- the sixteen bytes -/
def by16 (x : Nat → Nat) : List UInt8 := Lib.bytesOf (toI (ipL x 16))
theorem by16_len (x : Nat → Nat) : (by16 x).length = 16 := by simp [by16, Lib.bytesOf, toI, ipL]
theorem by16_same (x y : Nat → Nat) (hx : ∀ i, x i < 256) (hy : ∀ i, y i < 256) (h : by16 x = by16 y) : same16 x y = true := by
  rw [same16_iff]
  intro i hi
  have h1 : (by16 x)[i]? = (by16 y)[i]? := by rw [h]
  simp [by16, Lib.bytesOf, toI, ipL, hi] at h1
  have h2 := congrArg UInt8.toNat h1
  have h3 := hx i
  have h4 := hy i
  simp at h2
  omega
theorem same_by16 (x y : Nat → Nat) (h : same16 x y = true) : by16 x = by16 y := by
  rw [same16_iff] at h
  unfold by16
  congr 2
  unfold ipL
  apply List.map_congr_left
  intro i hi
  exact h i (by simpa using hi)
theorem cmp_self : ∀ l : List UInt8, Lib.compareBytes l l = 0
  | [] => rfl
  | a :: l => by simp [Lib.compareBytes, cmp_self l]
theorem cmp_eq0 : ∀ a b : List UInt8, a.length = b.length → (¬ Lib.compareBytes a b < 0) → (¬ Lib.compareBytes b a < 0) → a = b
  | [], [], _, _, _ => rfl
  | [], _ :: _, h, _, _ => by simp at h
  | _ :: _, [], h, _, _ => by simp at h
  | a :: ra, b :: rb, h, h1, h2 => by
    simp only [Lib.compareBytes] at h1 h2
    by_cases p : a < b
    · simp [p] at h1
    · by_cases q : b < a
      · simp [q] at h2
      · rw [if_neg p, if_neg q] at h1
        rw [if_neg q, if_neg p] at h2
        have e : a = b := UInt8.le_antisymm (UInt8.not_lt.1 q) (UInt8.not_lt.1 p)
        rw [e, cmp_eq0 ra rb (by simpa using h) h1 h2]
theorem cmp_asym : ∀ a b : List UInt8, Lib.compareBytes a b < 0 → ¬ Lib.compareBytes b a < 0
  | [], [], h => by simp [Lib.compareBytes] at h
  | [], _ :: _, _ => by simp [Lib.compareBytes]
  | _ :: _, [], h => by simp [Lib.compareBytes] at h
  | a :: ra, b :: rb, h => by
    simp only [Lib.compareBytes] at h ⊢
    by_cases p : a < b
    · have q : ¬ b < a := fun q => UInt8.lt_irrefl _ (UInt8.lt_trans p q)
      rw [if_neg q, if_pos p]; omega
    · by_cases q : b < a
      · rw [if_neg p, if_pos q] at h; omega
      · rw [if_neg p, if_neg q] at h
        rw [if_neg q, if_neg p]
        exact cmp_asym ra rb h
theorem cmp_trans : ∀ a b c : List UInt8, Lib.compareBytes a b < 0 → Lib.compareBytes b c < 0 → Lib.compareBytes a c < 0
  | [], [], _, h, _ => by simp [Lib.compareBytes] at h
  | _ :: _, [], _, h, _ => by simp [Lib.compareBytes] at h
  | _, _ :: _, [], _, h => by simp [Lib.compareBytes] at h
  | [], _ :: _, _ :: _, _, _ => by simp [Lib.compareBytes]
  | a :: ra, b :: rb, c :: rc, h1, h2 => by
    simp only [Lib.compareBytes] at h1 h2 ⊢
    by_cases p : a < b
    · by_cases q : b < c
      · rw [if_pos (UInt8.lt_trans p q)]; omega
      · rw [if_neg q] at h2
        by_cases q' : c < b
        · rw [if_pos q'] at h2; omega
        · have e : b = c := UInt8.le_antisymm (UInt8.not_lt.1 q') (UInt8.not_lt.1 q)
          subst e
          rw [if_pos p]; omega
    · rw [if_neg p] at h1
      by_cases p' : b < a
      · rw [if_pos p'] at h1; omega
      · rw [if_neg p'] at h1
        have e : a = b := UInt8.le_antisymm (UInt8.not_lt.1 p') (UInt8.not_lt.1 p)
        subst e
        by_cases q : a < c
        · rw [if_pos q]; omega
        · rw [if_neg q] at h2 ⊢
          by_cases q' : c < a
          · rw [if_pos q'] at h2; omega
          · rw [if_neg q'] at h2 ⊢
            exact cmp_trans ra rb rc h1 h2

theorem run_compareRow (w : World) (b b' o o' c c' : Nat) (xs ys : List Int) (hx : ∀ i, i < xs.length → w.cell? ⟨b, o + i, none⟩ = some (.int .u8 (xs.getD i 0))) (hy : ∀ i, i < ys.length → w.cell? ⟨b', o' + i, none⟩ = some (.int .u8 (ys.getD i 0))) :
    (Extern.BytealgCompare.compare #[.slice (some ⟨b, o, none⟩) xs.length c, .slice (some ⟨b', o', none⟩) ys.length c']).run Tryz.prog w = .ok (.int .i64 (Lib.compareBytes (Lib.bytesOf xs) (Lib.bytesOf ys))) w := by
  have key : ∀ (q p : Nat) (zs : List Int), (∀ i, i < zs.length → w.cell? ⟨q, p + i, none⟩ = some (.int .u8 (zs.getD i 0))) → (Extern.Bytes.loadBytes ⟨q, p, none⟩ zs.length .empty).run Tryz.prog w = .ok ⟨(Lib.bytesOf zs).toArray⟩ w := fun q p zs hz => by
    have hl := Lib.run_loadBytesX (P := Tryz.prog) w zs ⟨q, p, none⟩ .empty (fun j x hj => by
      have hjl : j < zs.length := (List.getElem?_eq_some_iff.1 hj).1
      have e : (⟨q, p, none⟩ : Addr).add j = ⟨q, p + j, none⟩ := by unfold Addr.add; split <;> simp_all
      rw [e, hz j hjl, List.getD_eq_getElem?_getD, hj]
      rfl)
    rw [hl]
    congr 1
    apply ByteArray.ext
    simp
  change Sem.run Tryz.prog (do pure (goInt (Extern.BytealgCompare.cmp (← Extern.Bytes.bytesOf (.slice (some ⟨b, o, none⟩) xs.length c)) (← Extern.Bytes.bytesOf (.slice (some ⟨b', o', none⟩) ys.length c'))))) w = _
  simp only [Extern.Bytes.bytesOf, Sem.run_bind, Sem.run_pure, Result.andThen, key b o xs hx, key b' o' ys hy]
  rw [Lib.cmp_eq]
  simp [goInt]

set_option maxHeartbeats 800000 in
set_option maxRecDepth 100000 in
theorem compare_any (w : World) (b b' o o' c c' : Nat) (xs ys : List Int) (hx : ∀ i, i < xs.length → w.cell? ⟨b, o + i, none⟩ = some (.int .u8 (xs.getD i 0))) (hy : ∀ i, i < ys.length → w.cell? ⟨b', o' + i, none⟩ = some (.int .u8 (ys.getD i 0))) :
    Calls Tryz.prog 92 #[.slice (some ⟨b, o, none⟩) xs.length c, .slice (some ⟨b', o', none⟩) ys.length c'] w fun e w' => e = .returned (.int .i64 (Lib.compareBytes (Lib.bytesOf xs) (Lib.bytesOf ys))) ∧ w = w' := by
  have HR : Hid _ := run_compareRow w b b' o o' c c' xs ys hx hy
  clear hx hy
  go_enter Tryz.func92, Tryz.ntmps92
  go_wp2
  rw [run_callFunc_extern Tryz.func108 (by kernel_rfl) (by kernel_rfl) (by kernel_rfl) (e := Extern.BytealgCompare.compare) (by kernel_rfl), HR.out]
  simp only [Result.andThen]
  rw [Oper.upon_value]
  go_wp2
  go_ret
  exact ⟨rfl, rfl⟩

/-- what Less answers -/
def lessB (V U : Int) (x y : Nat → Nat) : Bool := if V = U then decide (Lib.compareBytes (by16 x) (by16 y) < 0) else decide (V < U)
set_option maxHeartbeats 1600000 in
set_option maxRecDepth 100000 in
theorem Less_any (V U : Int) (x y : Nat → Nat) (w : World) :
    Calls Tryz.prog 60 #[.agg (ipCells V x), .agg (ipCells U y)] w fun e w' => e = .returned (.bool (lessB V U x y)) ∧ Below w.heap.size w w' := by
  obtain ⟨L, hL⟩ : ∃ L, L = lessB V U x y := ⟨_, rfl⟩
  rw [← hL]
  have HL : Hid (L = lessB V U x y) := hL
  clear hL
  have hx1 := boxed_new w V x 28
  have hy1 := boxed_new (w.alloc (.cells (ipCells V x) 28)) U y 28
  have hb1 : Below w.heap.size w ((w.alloc (.cells (ipCells V x) 28)).alloc (.cells (ipCells U y) 28)) := ((Below.refl _ _).alloc (Nat.le_refl _) _).alloc (by simp) _
  have hx2 := hx1.old ((Below.refl _ _).alloc (Nat.le_refl _) (.cells (ipCells U y) 28))
  clear hx1
  rw [World.size_alloc] at hy1
  obtain ⟨A, hA⟩ : ∃ A, A = ipCells V x := ⟨_, rfl⟩
  obtain ⟨C, hC⟩ : ∃ C, C = ipCells U y := ⟨_, rfl⟩
  rw [← hA] at hx2 hy1 hb1 ⊢
  rw [← hC] at hx2 hy1 hb1 ⊢
  clear hA hC
  go_enter Tryz.func60, Tryz.ntmps60
  go_upto_region 1 with fail
  obtain ⟨W, hW⟩ : ∃ W, W = (w.alloc (.cells A 28)).alloc (.cells C 28) := ⟨_, rfl⟩
  rw [← hW] at hx2 hy1 hb1 ⊢
  clear hW
  obtain ⟨B, hB⟩ : ∃ B, B = w.heap.size := ⟨_, rfl⟩
  rw [← hB] at hx2 hy1 ⊢
  clear hB
  have v1 := hx2.ver
  have v2 := hy1.ver
  by_cases hVU : V = U
  · have e : lessB V U x y = decide (Lib.compareBytes (by16 x) (by16 y) < 0) := if_pos hVU
    have HL2 : Hid (L = decide (Lib.compareBytes (by16 x) (by16 y) < 0)) := HL.out.trans e
    have HC : Hid _ := compare_any W.drew B (B + 1) 1 1 16 16 (toI (ipL x 16)) (toI (ipL y 16)) (fun i hi => by
      rw [toI_len, ipL_len] at hi
      rw [toI_getD]
      show W.cell? _ = _
      rw [hx2.byte i hi]
      simp [ipL, List.getD, hi]) (fun i hi => by
      rw [toI_len, ipL_len] at hi
      rw [toI_getD]
      show W.cell? _ = _
      rw [hy1.byte i hi]
      simp [ipL, List.getD, hi])
    rw [show (toI (ipL x 16)).length = 16 from by rw [toI_len, ipL_len], show (toI (ipL y 16)).length = 16 from by rw [toI_len, ipL_len]] at HC
    subst hVU
    have hb2 : Below w.heap.size w W.drew := hb1.drew
    obtain ⟨cmp, hcmp⟩ : ∃ cmp, cmp = Lib.compareBytes (by16 x) (by16 y) := ⟨_, rfl⟩
    rw [← hcmp] at HL2
    have HE : Hid (Lib.compareBytes (Lib.bytesOf (toI (ipL x 16))) (Lib.bytesOf (toI (ipL y 16))) = cmp) := hcmp.symm
    clear e hcmp hx2 hy1
    go_wp2
    go_region_with (go_at_call 92; refine Calls.mono HC.out ?_; rintro e w' ⟨rfl, rfl⟩; rw [HE.out])
    all_goals
      go_wp2
      go_ret
      exact ⟨by rw [HL2.out]; rfl, hb2⟩
  · have e : lessB V U x y = decide (V < U) := if_neg hVU
    have HL2 : Hid (L = decide (V < U)) := HL.out.trans e
    have hne : (V != U) = true := by simpa using hVU
    clear e hVU hx2 hy1
    go_wp2
    go_ret
    exact ⟨by rw [HL2.out]; rfl, hb1⟩
end Go.Proofs.YteldiggaooeeeaaGreatDoor
