/-
  The walk of SumPseudo: it answers true, whatever it is handed, and writes nothing that was there.
-/
import Derived.Test.YtfnmidaiabjpbaaPs4
import Derived.Test.YtfnmidaiabjpbaaSame
import Derived.Test.YtfnmidaiabjpbaaSum6
namespace Go.Proofs.Ytfnmidaiabjpbaa.sumPseudo
open Go.RowKit

/-- the first k bytes written full -/
def full (c k : Nat) (l : List Nat) : List Nat := List.replicate k c ++ l.drop k
theorem full_len (c k : Nat) (l : List Nat) (h : k ≤ l.length) : (full c k l).length = l.length := by simp [full]; omega
theorem full_set (c k : Nat) (l : List Nat) (h : k < l.length) : (full c k l).set k c = full c (k + 1) l := by
  unfold full
  rw [List.set_append_right _ _ (by simp), List.length_replicate, Nat.sub_self, List.drop_eq_getElem_cons h, List.set_cons_zero, List.replicate_succ']
  simp
theorem full_all (c : Nat) (l : List Nat) : full c l.length l = List.replicate l.length c := by simp [full]
theorem psL_le (V U : Int) (x y : Nat → Nat) (p n : Int) : (psL V U x y p n).length ≤ 40 := by
  unfold psL
  split
  · split <;> simp [ipL_len]
  · simp
theorem rep_at (c n k : Nat) (h : k < n) : (List.replicate n c).getD k 0 = c := by simp [List.getD, h]
theorem own_vals {w : World} {B B' n n' : Nat} {v v' : Value} {l l' : List Nat} (h : OwnB w B v n l) (h' : OwnB w B' v' n' l') (hn : 0 < n) (hn' : 0 < n') (hne : l.getD 0 0 ≠ l'.getD 0 0) : v.ownBlock = none ∨ v.ownBlock ≠ v'.ownBlock := by
  obtain ⟨g, c, rfl, _, _⟩ := own_form h hn
  obtain ⟨g', c', rfl, _, _⟩ := own_form h' hn'
  refine .inr (fun e => hne ?_)
  simp [Value.ownBlock] at e
  subst e
  have h1 := h.cellAt 0 (by omega)
  have h2 := h'.cellAt 0 (by omega)
  rw [h1] at h2
  have e1 := h.len
  have e2 := h'.len
  simp [toI, show 0 < l.length by omega, show 0 < l'.length by omega] at h2
  simp [List.getD, show 0 < l.length by omega, show 0 < l'.length by omega]
  omega

set_option maxHeartbeats 3200000 in
set_option maxRecDepth 100000 in
theorem core (V U : Int) (x y : Nat → Nat) (p n : Int) (w : World) :
    Calls Try.prog 3 #[.agg (ipCells V x), .agg (ipCells U y), .int .i64 p, .int .i64 n] w fun e w' => e = .returned (.bool true) ∧ Below w.heap.size w w' := by
  obtain ⟨i0, hi, hz0, hz1, hz2⟩ := info_parts Try.infoByte
  have hx1 := boxed_new w V x 24
  have hy1 := boxed_new (w.alloc (.cells (ipCells V x) 24)) U y 24
  have hb1 : Below w.heap.size w ((w.alloc (.cells (ipCells V x) 24)).alloc (.cells (ipCells U y) 24)) := ((Below.refl _ _).alloc (Nat.le_refl _) _).alloc (by simp) _
  have hx2 := hx1.old ((Below.refl _ _).alloc (Nat.le_refl _) (.cells (ipCells U y) 24))
  clear hx1
  rw [World.size_alloc] at hy1
  obtain ⟨A, hA⟩ : ∃ A, A = ipCells V x := ⟨_, rfl⟩
  obtain ⟨C, hC⟩ : ∃ C, C = ipCells U y := ⟨_, rfl⟩
  rw [← hA] at hx2 hy1 hb1 ⊢
  rw [← hC] at hx2 hy1 hb1 ⊢
  clear hA hC
  go_enter Try.func3, Try.ntmps3
  go_upto_region 1 with fail
  obtain ⟨W, hW⟩ : ∃ W, W = (w.alloc (.cells A 24)).alloc (.cells C 24) := ⟨_, rfl⟩
  rw [← hW] at hx2 hy1 hb1 ⊢
  clear hW
  obtain ⟨B, hB⟩ : ∃ B, B = w.heap.size := ⟨_, rfl⟩
  rw [← hB] at hx2 hy1 ⊢
  clear hB
  go_upto_region 2 with fail
  have hbW : Below w.heap.size w (W.alloc (.cells #[.int .i64 4, .int .u8 0, .int .u8 0, .int .u8 0, .int .u8 0, .int .u8 0, .int .u8 0, .int .u8 0, .int .u8 0, .int .u8 0, .int .u8 0, .int .u8 0, .int .u8 0, .int .u8 0, .int .u8 0, .int .u8 0, .int .u8 0] 24)) := hb1.alloc hb1.size _
  have hv2 : Boxed (W.alloc (.cells #[.int .i64 4, .int .u8 0, .int .u8 0, .int .u8 0, .int .u8 0, .int .u8 0, .int .u8 0, .int .u8 0, .int .u8 0, .int .u8 0, .int .u8 0, .int .u8 0, .int .u8 0, .int .u8 0, .int .u8 0, .int .u8 0, .int .u8 0] 24)) W.heap.size 4 (fun _ => 0) := boxed_new W 4 (fun _ => 0) 24
  have hx3 := hx2.old ((Below.refl _ _).alloc (Nat.le_refl _) (.cells #[.int .i64 4, .int .u8 0, .int .u8 0, .int .u8 0, .int .u8 0, .int .u8 0, .int .u8 0, .int .u8 0, .int .u8 0, .int .u8 0, .int .u8 0, .int .u8 0, .int .u8 0, .int .u8 0, .int .u8 0, .int .u8 0, .int .u8 0] 24))
  have hy3 := hy1.old ((Below.refl _ _).alloc (Nat.le_refl _) (.cells #[.int .i64 4, .int .u8 0, .int .u8 0, .int .u8 0, .int .u8 0, .int .u8 0, .int .u8 0, .int .u8 0, .int .u8 0, .int .u8 0, .int .u8 0, .int .u8 0, .int .u8 0, .int .u8 0, .int .u8 0, .int .u8 0, .int .u8 0] 24))
  obtain ⟨W2, hW2⟩ : ∃ W2, W2 = W.alloc (.cells #[.int .i64 4, .int .u8 0, .int .u8 0, .int .u8 0, .int .u8 0, .int .u8 0, .int .u8 0, .int .u8 0, .int .u8 0, .int .u8 0, .int .u8 0, .int .u8 0, .int .u8 0, .int .u8 0, .int .u8 0, .int .u8 0, .int .u8 0] 24) := ⟨_, rfl⟩
  rw [← hW2] at hbW hv2 hx3 hy3 ⊢
  clear hW2 hx2 hy1 hb1
  obtain ⟨D, hD⟩ : ∃ D, D = W.heap.size := ⟨_, rfl⟩
  rw [← hD] at hv2 ⊢
  clear hD
  have HBX : Hid (∀ w', Below W2.heap.size W2 w' → Boxed w' B V x ∧ Boxed w' (B + 1) U y) := fun w' h => ⟨hx3.old h, hy3.old h⟩
  have hE1 : psE 4 4 (fun _ => 0) (fun _ => 0) 17 1 = 0 := by decide
  have hL1 : psL 4 4 (fun _ => 0) (fun _ => 0) 17 1 = [0, 0, 0, 0, 0, 0, 0, 0, 0, 17, 0, 1] := by decide
  have HE1 : Hid _ := hE1
  have HL1 : Hid _ := hL1
  clear hE1 hL1
  go_wp2_with (first | (refine wpList_load_ip (.tmp 9) rfl D 4 (fun _ => 0) rfl hv2 rfl ?_) | (refine wpList_load_ip (.tmp 9) rfl D 4 (fun _ => 0) rfl hv2 rfl ?_))
  refine (pseudo_any 4 4 (fun _ => 0) (fun _ => 0) 17 1 W2).mono ?_
  rintro e w1 ⟨v1, rfl, ho1, _, hb2⟩
  rw [HE1.out]
  rw [HL1.out] at ho1
  have ho1' : OwnB w1 W2.heap.size v1 12 [0, 0, 0, 0, 0, 0, 0, 0, 0, 17, 0, 1] := ho1
  obtain ⟨g1, c1, rfl, hg1, hg1s⟩ := own_form ho1' (by omega)
  have d9 : w1.cell? ⟨g1, 9, none⟩ = some (.int .u8 17) := ho1'.cellAt 9 (by omega)
  have d11 : w1.cell? ⟨g1, 11, none⟩ = some (.int .u8 1) := ho1'.cellAt 11 (by omega)
  clear ho1
  obtain ⟨hx4, hy4⟩ := HBX.out _ hb2
  obtain ⟨E, hE⟩ : ∃ E, E = psE V U x y p n := ⟨_, rfl⟩
  obtain ⟨PL, hPL⟩ : ∃ PL, PL = psL V U x y p n := ⟨_, rfl⟩
  have HE : Hid (psE V U x y p n = E) := hE.symm
  have HPL : Hid (psL V U x y p n = PL) := hPL.symm
  clear hE hPL
  have hplen : PL.length ≤ 40 := by rw [← HPL.out]; exact psL_le V U x y p n
  go_wp2_with (first | (refine wpList_load_ip (.tmp 4) rfl B V x rfl hx4 rfl ?_) | (refine wpList_load_ip (.tmp 5) rfl (B + 1) U y rfl hy4 rfl ?_))
  refine (pseudo_any V U x y p n w1).mono ?_
  rintro e w2 ⟨v2, rfl, ho2, hnil2, hb3⟩
  rw [HE.out]
  rw [HPL.out] at ho2 hnil2
  have ho1b := OwnB.below ho1' hb3
  have hb23 := hb2.trans (hb3.mono hb2.size)
  obtain ⟨hx5, hy5⟩ := HBX.out _ hb23
  obtain ⟨m, hm⟩ : ∃ m, m = PL.length := ⟨_, rfl⟩
  rw [← hm] at ho2 hnil2 hplen
  have HM : Hid (PL.length = m) := hm.symm
  have HG2 : Hid (∀ g, v2.ownBlock = some g → w1.heap.size ≤ g ∧ g < w2.heap.size) := fun g hg => ho2.lt g hg
  obtain ⟨a2, c2, rfl⟩ := owns_shape ho2
  clear hm hx4 hy4 d9 d11
  go_wp2_with (first | (refine wpList_load_ip (.tmp 4) rfl B V x rfl hx5 rfl ?_) | (refine wpList_load_ip (.tmp 5) rfl (B + 1) U y rfl hy5 rfl ?_))
  refine (rpseudo_any V U x y p n w2).mono ?_
  rintro e w3 ⟨v3, rfl, ho3, hb4⟩
  rw [HE.out]
  rw [HPL.out, HM.out] at ho3
  have ho1c := OwnB.below ho1b hb4
  have ho2c := OwnB.below ho2 hb4
  have hb24 := hb23.trans (hb4.mono hb23.size)
  have hs1 := hb2.size
  have hs2 := hb3.size
  have hs3 := hb4.size
  have HG3 : Hid (∀ g, v3.ownBlock = some g → w2.heap.size ≤ g ∧ g < w3.heap.size) := fun g hg => ho3.lt g hg
  obtain ⟨a3, c3, rfl⟩ := owns_shape ho3
  have hEE : (E != E) = false := by simp
  clear hx5 hy5 ho1b ho1' ho2 hb23 hb3 hb2 hb4
  go_wp2_with fail
  refine (same_any a2 a3 m m c2 c3 PL PL w3 HM.out HM.out (owns_seg_at ho2c).1 (owns_seg_at ho3).1 (by omega)).mono ?_
  rintro e w4 ⟨rfl, hb5⟩
  rw [decide_eq_true rfl]
  have ho1d := OwnB.below ho1c hb5
  have ho2d := OwnB.below ho2c hb5
  have ho3d := OwnB.below ho3 hb5
  have hb25 := hb24.trans (hb5.mono hb24.size)
  have hs4 := hb5.size
  have hg1t : g1 < w1.heap.size := hg1s
  clear ho1c ho2c ho3 hb24 hb5 hg1s
  go_wp2
  go_loopw [15] (fun ix wr => ∃ k : Nat, k ≤ 12 ∧ ix = .int .i64 k ∧ OwnB wr W2.heap.size (.slice (some ⟨g1, 0, none⟩) 12 c1) 12 (full 77 k [0, 0, 0, 0, 0, 0, 0, 0, 0, 17, 0, 1]) ∧ OwnB wr w1.heap.size (.slice a2 m c2) m PL ∧ OwnB wr w2.heap.size (.slice a3 m c3) m PL ∧ Below W2.heap.size W2 wr ∧ w4.heap.size ≤ wr.heap.size) (fun ix _ => 12 - (intOf ix).toNat)
  case atStart => exact ⟨0, by omega, rfl, by simpa [full] using ho1d, ho2d, ho3d, hb25, Nat.le_refl _⟩
  case round =>
    obtain ⟨k, hk, rfl, ho1, ho2, ho3, hb, hsz⟩ := hrel
    clear ho1d ho2d ho3d hb25
    by_cases hlt : k < 12
    · have hl := ho1.len
      have cc : wr.cell? ⟨g1, k, none⟩ = some (.int .u8 (((full 77 k [0, 0, 0, 0, 0, 0, 0, 0, 0, 17, 0, 1]).getD k 0 : Nat) : Int)) := by
        rw [ho1.cellAt k (by omega)]; simp [toI, List.getD, show k < (full 77 k [0, 0, 0, 0, 0, 0, 0, 0, 0, 17, 0, 1]).length by omega]
      have ff := ho1.frozenAt k
      have hst := ho1.stored k (.int .u8 ((77 : Nat) : Int))
      rw [toI_set, full_set 77 k _ (by simpa using hlt)] at hst
      have HST : Hid (_ ∧ _) := hst
      have ho2' : OwnB (wr.setCell ⟨g1, k, none⟩ (.int .u8 77)) w1.heap.size (.slice a2 m c2) m PL := ownsRow_setCell_below ho2 (a := ⟨g1, k, none⟩) hg1t _
      have ho3' : OwnB (wr.setCell ⟨g1, k, none⟩ (.int .u8 77)) w2.heap.size (.slice a3 m c3) m PL := ownsRow_setCell_below ho3 (a := ⟨g1, k, none⟩) (by show g1 < _; omega) _
      obtain ⟨q, hq⟩ : ∃ q, q = (full 77 k [0, 0, 0, 0, 0, 0, 0, 0, 0, 17, 0, 1]).getD k 0 := ⟨_, rfl⟩
      rw [← hq] at cc
      clear hst hq hl ho1 ho2 ho3
      go_wp2
      go_roundw
      case rel => exact ⟨k + 1, by omega, by go_num, HST.out.1, ho2', ho3', hb.setCell hg1 _, by simpa using hsz⟩
      case measure => simp [intOf]; omega
    · have ek : k = 12 := by omega
      have ho1f : OwnB wr W2.heap.size (.slice (some ⟨g1, 0, none⟩) 12 c1) 12 (List.replicate 12 77) := by rw [ek] at ho1; exact ho1
      clear ek ho1
      go_wp2
      go_loopw [16] (fun ix wq => ∃ k : Nat, k ≤ m ∧ ix = .int .i64 k ∧ OwnB wq W2.heap.size (.slice (some ⟨g1, 0, none⟩) 12 c1) 12 (List.replicate 12 77) ∧ OwnB wq w1.heap.size (.slice a2 m c2) m (full 78 k PL) ∧ OwnB wq w2.heap.size (.slice a3 m c3) m PL ∧ Below W2.heap.size W2 wq ∧ w4.heap.size ≤ wq.heap.size) (fun ix _ => m - (intOf ix).toNat)
      case atStart => exact ⟨0, by omega, rfl, ho1f, by simpa [full] using ho2, ho3, hb, hsz⟩
      case round =>
        obtain ⟨j, hj, rfl, q1, q2, q3, hb', hsz'⟩ := hrel
        clear ho1f ho2 ho3 hb hsz
        by_cases hlj : j < m
        · obtain ⟨g2, c2', e2, hg2, hg2s⟩ := own_form q2 (by omega)
          simp only [Value.slice.injEq, true_and] at e2
          obtain ⟨rfl, rfl⟩ := e2
          have hg2t := (HG2.out g2 rfl).2
          have hl := q2.len
          have cc : wr.cell? ⟨g2, j, none⟩ = some (.int .u8 (((full 78 j PL).getD j 0 : Nat) : Int)) := by
            rw [q2.cellAt j (by omega)]; simp [toI, List.getD, show j < (full 78 j PL).length by omega]
          have ff := q2.frozenAt j
          have hst := q2.stored j (.int .u8 ((78 : Nat) : Int))
          rw [toI_set, full_set 78 j _ (by rw [HM.out]; exact hlj)] at hst
          have HST : Hid (_ ∧ _) := hst
          have q1' : OwnB (wr.setCell ⟨g2, j, none⟩ (.int .u8 78)) W2.heap.size (.slice (some ⟨g1, 0, none⟩) 12 c1) 12 (List.replicate 12 77) := q1.kept hst.2 (.inr (by simp [Value.ownBlock]; omega))
          have q3' : OwnB (wr.setCell ⟨g2, j, none⟩ (.int .u8 78)) w2.heap.size (.slice a3 m c3) m PL := ownsRow_setCell_below q3 (a := ⟨g2, j, none⟩) hg2t _
          obtain ⟨q, hq⟩ : ∃ q, q = (full 78 j PL).getD j 0 := ⟨_, rfl⟩
          rw [← hq] at cc
          have hg2W : W2.heap.size ≤ g2 := by omega
          clear hst hq hl q1 q2 q3
          go_wp2
          go_roundw
          case rel => exact ⟨j + 1, by omega, by go_num, q1', HST.out.1, q3', hb'.setCell hg2W _, by simpa using hsz'⟩
          case measure => simp [intOf]; omega
        · have ej : j = m := by omega
          have q2f : OwnB wr w1.heap.size (.slice a2 m c2) m (List.replicate m 78) := by rw [ej, ← HM.out, full_all] at q2; rw [HM.out] at q2; exact q2
          clear ej q2
          go_wp2_with (first | (at_builtin; refine wpList_append_own _ rfl (.tmp 91) (.tmp 92) 25 rfl W2.heap.size 5 i0 (.int .u8 0) 1 1 Try.underlying25 hi hz0 hz1 hz2 rfl (by decide) _ _ _ rfl (q1.alloc _) ⟨wr.heap.size, 0, none⟩ 2 2 [.int .u8 77, .int .u8 77] rfl rfl (news_new _ _ _) (by intro u hu; simp at hu; subst hu; rfl) (by unfold maxLen; omega) (by omega) (by have := hb'.size; simp; omega) ?_))
          intro v5 w5 ho5' hg5 _
          have ho5 : OwnB w5 W2.heap.size v5 14 (List.replicate 14 77) := by simpa [OwnB, toI] using ho5'
          have hb5 : Below W2.heap.size W2 w5 := (hb'.alloc hb'.size _).grown hg5 (by have := hb'.size; simp; omega) (fun j hj => (q1.lt j hj).1)
          have q2a : OwnB w5 w1.heap.size (.slice a2 m c2) m (List.replicate m 78) := (q2f.alloc _).kept hg5 (by
            cases hv : (Value.slice a2 m c2).ownBlock with
            | none => exact .inl rfl
            | some k => exact .inr (by have := (HG2.out k hv).1; simp [Value.ownBlock]; omega))
          have q3a : OwnB w5 w2.heap.size (.slice a3 m c3) m PL := (q3.alloc _).kept hg5 (by
            cases hv : (Value.slice a3 m c3).ownBlock with
            | none => exact .inl rfl
            | some k => exact .inr (by have := (HG3.out k hv).1; simp [Value.ownBlock]; omega))
          have hs5 := hg5.size
          have hgap : v5.ownBlock ≠ (Value.slice a2 m c2).ownBlock := by
            by_cases h0 : m = 0
            · have := hnil2 h0
              rw [this]
              obtain ⟨gg, cg, e5, _, _⟩ := own_form ho5 (by omega)
              rw [e5]
              simp [Value.ownBlock]
            · rcases own_vals ho5 q2a (by omega) (by omega) (by simp [List.getD, show 0 < m by omega]) with h | h
              · obtain ⟨gg, cg, e5, _, _⟩ := own_form ho5 (by omega)
                rw [e5] at h; simp [Value.ownBlock] at h
              · exact h
          obtain ⟨a5, c5, rfl⟩ := owns_shape ho5
          clear ho5' hg5 q1 q2f q3 hb'
          go_wp2_with (first | (at_builtin; refine wpList_append_own _ rfl (.tmp 94) (.tmp 95) 25 rfl w1.heap.size 5 i0 (.int .u8 0) 1 1 Try.underlying25 hi hz0 hz1 hz2 rfl (by decide) _ _ _ rfl (q2a.alloc _) ⟨w5.heap.size, 0, none⟩ 2 2 [.int .u8 78, .int .u8 78] rfl rfl (news_new _ _ _) (by intro u hu; simp at hu; subst hu; rfl) (by unfold maxLen; omega) (by omega) (by simp at hs5 ⊢; omega) ?_))
          intro v6 w6 ho6' hg6 _
          have ho6 : OwnB w6 w1.heap.size v6 (m + 2) (List.replicate (m + 2) 78) := by
            have e : List.replicate (m + 2) 78 = List.replicate m 78 ++ [78, 78] := by rw [show m + 2 = (m + 1) + 1 from rfl, List.replicate_succ', List.replicate_succ', List.append_assoc]; rfl
            rw [e]
            simpa [OwnB, toI] using ho6'
          have hb6 : Below W2.heap.size W2 w6 := (hb5.alloc hb5.size _).grown hg6 (by have := hb5.size; simp; omega) (fun j hj => by have := (HG2.out j hj).1; omega)
          have ho5b : OwnB w6 W2.heap.size (.slice a5 14 c5) 14 (List.replicate 14 77) := (ho5.alloc _).kept hg6 (.inr hgap)
          have q3b : OwnB w6 w2.heap.size (.slice a3 m c3) m PL := (q3a.alloc _).kept hg6 (by
            cases hv : (Value.slice a3 m c3).ownBlock with
            | none => exact .inl rfl
            | some k =>
              refine .inr (fun h => ?_)
              have h1 := (HG3.out k hv).1
              have h2 := (HG2.out k h.symm).2
              omega)
          obtain ⟨a6, c6, rfl⟩ := owns_shape ho6
          obtain ⟨hx7, hy7⟩ := HBX.out _ hb6
          clear ho6' hg6 q2a q3a ho5 hb5 hgap
          go_wp2_with (first | (refine wpList_load_ip (.tmp 4) rfl B V x rfl hx7 rfl ?_) | (refine wpList_load_ip (.tmp 5) rfl (B + 1) U y rfl hy7 rfl ?_))
          refine (pseudo_any V U x y p n w6).mono ?_
          rintro e w7 ⟨v7, rfl, ho7, _, hb7⟩
          rw [HE.out]
          rw [HPL.out, HM.out] at ho7
          obtain ⟨a7, c7, rfl⟩ := owns_shape ho7
          have ho5c := OwnB.below ho5b hb7
          have ho6c := OwnB.below ho6 hb7
          have q3c := OwnB.below q3b hb7
          have hb67 := hb6.trans (hb7.mono hb6.size)
          clear hx7 hy7 ho5b ho6 q3b hb6 hb7
          go_wp2_with fail
          refine (same_any a7 a3 m m c7 c3 PL PL w7 HM.out HM.out (owns_seg_at ho7).1 (owns_seg_at q3c).1 (by omega)).mono ?_
          rintro e w8 ⟨rfl, hb8⟩
          rw [decide_eq_true rfl]
          have ho5d := OwnB.below ho5c hb8
          have ho6d := OwnB.below ho6c hb8
          have hb68 := hb67.trans (hb8.mono hb67.size)
          have hfin : Below w.heap.size w w8 := hbW.trans (hb68.mono hbW.size)
          clear ho5c ho6c ho7 q3c hb67 hb8
          go_wp2
          go_loop [20] (fun ix => ∃ k : Nat, k ≤ 14 ∧ ix = .int .i64 k) (fun ix => 14 - (intOf ix).toNat)
          case atStart => exact ⟨0, by omega, rfl⟩
          case round =>
            obtain ⟨kk, hkk, rfl⟩ := hrel
            by_cases hlk : kk < 14
            · obtain ⟨bb, boff, rfl, hcc⟩ := seg_at (owns_seg_at ho5d).1 kk (by rw [ho5d.len]; exact hlk)
              have cz := hcc kk (by rw [ho5d.len]; exact hlk)
              have ez := rep_at 77 (14) kk hlk
              rw [ez] at cz
              clear hcc ez
              go_wp2
              go_round
              case rel => exact ⟨kk + 1, by omega, by go_num⟩
              case measure => simp [intOf]; omega
            · go_wp2
              go_loop [21] (fun ix => ∃ k : Nat, k ≤ m + 2 ∧ ix = .int .i64 k) (fun ix => m + 2 - (intOf ix).toNat)
              case atStart => exact ⟨0, by omega, rfl⟩
              case round =>
                obtain ⟨kk, hkk, rfl⟩ := hrel
                by_cases hlk : kk < m + 2
                · obtain ⟨bb, boff, rfl, hcc⟩ := seg_at (owns_seg_at ho6d).1 kk (by rw [ho6d.len]; exact hlk)
                  have cz := hcc kk (by rw [ho6d.len]; exact hlk)
                  have ez := rep_at 78 (m + 2) kk hlk
                  rw [ez] at cz
                  clear hcc ez
                  go_wp2
                  go_round
                  case rel => exact ⟨kk + 1, by omega, by go_num⟩
                  case measure => simp [intOf]; omega
                · go_wp2
                  go_ret
                  exact ⟨rfl, hfin⟩
theorem walk (V : Int) (x : Nat → Nat) (U : Int) (y : Nat → Nat) (p n : Int) (w : World) (_h1 : (Lit.int .i64 p).wf = true) (_h2 : (Lit.int .i64 n).wf = true) :
    Calls Try.prog 3 #[.agg (ipCells V x), .agg (ipCells U y), .int .i64 p, .int .i64 n] w fun e w' => e = .returned (.bool true) ∧ Below w.heap.size w w' := core V U x y p n w
end Go.Proofs.Ytfnmidaiabjpbaa.sumPseudo
