/-
  Layer 15: New, older (of an entry).
-/
import Derived.Test.YtnpipngiehohgaaNgFn2
namespace Go.Proofs.Ytnpipngiehohgaa
open Go.RowKit Go.Maps

def agI (n : EN) : Int := if n.st = 3 ∧ ¬ n.ag < 1048576 then n.ag else n.ag + 1
def oldN (c : CF) (n : EN) : EN := if n.st = 2 ∧ agI n = c.fr then { n with st := 3, ag := 0, tr := 0 } else { n with ag := agI n }
def dueB (c : CF) (n : EN) : Bool := (n.st == 1 || n.st == 4) && agI n == c.ev
set_option maxHeartbeats 3200000 in
set_option maxRecDepth 100000 in
theorem older_any (e : EV) (c : CF) (w : World) (h : EntAt w e) (ha : 0 ≤ e.n.ag ∧ e.n.ag ≤ 1048576) : Calls Try.prog 67 #[.pointer (some ⟨e.P, 0, none⟩), .agg (cfC c)] w fun r w' => r = .returned (.bool (dueB c e.n)) ∧ EntAt w' ⟨oldN c e.n, e.P, e.lv⟩ ∧ Ch (fun q => q = e.P) w w' := by
  have HE : Hid (EntAt w e) := h
  have HAG : Hid (0 ≤ e.n.ag ∧ e.n.ag ≤ 1048576) := ha
  have wr : IntKind.i64.wrap (e.n.ag + 1) = e.n.ag + 1 := by rw [IntKind.wrap_i64]; omega
  clear h ha
  have hb := cfg_new w c
  have bel : Below w.heap.size w (w.alloc (.cells (cfC c) 23)) := (Below.refl _ _).alloc (Nat.le_refl _) _
  obtain ⟨CX, hC⟩ : ∃ C, C = cfC c := ⟨_, rfl⟩
  obtain ⟨W, hW⟩ : ∃ W, W = w.alloc (.cells (cfC c) 23) := ⟨_, rfl⟩
  rw [← hW] at hb bel
  obtain ⟨B, hB⟩ : ∃ B, B = w.heap.size := ⟨_, rfl⟩
  rw [← hB] at hb
  have HBX : Hid (CfgAt W B c) := hb
  rw [← hC] at hW ⊢
  have HOX : Hid (w.heap.size = B) := hB.symm
  have HLX : Hid (Below w.heap.size w W) := bel
  have HWX : Hid (w.alloc (.cells CX 23) = W) := hW.symm
  clear hb hW hB hC bel
  have HPB : Hid (¬ B = e.P) := by have := HE.out.lt; have := HOX.out; show ¬ B = e.P; omega
  have HE1 : Hid (EntAt W e) := HE.out.below HLX.out
  have c6 := HE1.out.cell 6
  have c7 := HE1.out.cell 7
  have f7 := HE1.out.fz 7
  simp only [enC, List.getElem?_toArray, List.getElem?_cons_succ, List.getElem?_cons_zero] at c6 c7
  obtain ⟨st, hst⟩ : ∃ st, e.n.st = st := ⟨_, rfl⟩
  obtain ⟨ag, hag⟩ : ∃ ag, e.n.ag = ag := ⟨_, rfl⟩
  rw [hst] at c6
  rw [hag] at c7 wr
  have HST : Hid (e.n.st = st ∧ e.n.ag = ag) := ⟨hst, hag⟩
  have e2 : W.cell? ⟨B, 2, none⟩ = some (.int .i64 c.ev) := HBX.out.cell 2
  have e4 : W.cell? ⟨B, 4, none⟩ = some (.int .i64 c.fr) := HBX.out.cell 4
  have HP2 : Hid (¬ e.P = B) := fun h => HPB.out h.symm
  clear hst hag
  go_enter Try.func67, Try.ntmps67
  go_upto_region 1 with fail
  rw [HOX.out, HWX.out]
  by_cases h3 : st = 3
  · have HD : Hid (dueB c e.n = false) := by show dueB c e.n = false; unfold dueB; rw [HST.out.1, h3]; rfl
    by_cases hm : ag < 1048576
    · have HG : Hid (oldN c e.n = { e.n with ag := ag + 1 }) := by show oldN c e.n = _; obtain ⟨g1, g2⟩ := HST.out; subst g1 g2; unfold oldN agI; rw [if_neg (by omega), if_neg (by omega)]
      subst h3
      go_wp2
      go_ret
      exact ⟨by rw [HD.out]; rfl, EntAt.set (e' := ⟨oldN c e.n, e.P, e.lv⟩) HE1.out 7 _ rfl (by rw [HG.out]; rfl), (Ch.ofBelow HLX.out).set _ _ rfl⟩
    · have HG : Hid (oldN c e.n = e.n) := by show oldN c e.n = _; obtain ⟨g1, g2⟩ := HST.out; subst g1 g2; unfold oldN agI; rw [if_neg (by omega), if_pos ⟨h3, hm⟩]
      have hm2 : 1048576 ≤ ag := by omega
      subst h3
      go_wp2
      go_ret
      exact ⟨by rw [HD.out]; rfl, by rw [HG.out]; exact HE1.out, Ch.ofBelow HLX.out⟩
  · have q3 : (st != 3) = true := by simpa using h3
    have HAG1 : Hid (agI e.n = ag + 1) := by show agI e.n = _; unfold agI; rw [HST.out.1, HST.out.2, if_neg (by omega)]
    obtain ⟨w1, hw1⟩ : ∃ w1, w1 = W.setCell ⟨e.P, 7, none⟩ (.int .i64 (ag + 1)) := ⟨_, rfl⟩
    have HE2 : Hid (EntAt w1 ⟨{ e.n with ag := ag + 1 }, e.P, e.lv⟩ ∧ Ch (fun q => q = e.P) w w1 ∧ CfgAt w1 B c) := by
      rw [hw1]
      exact ⟨EntAt.set (e' := ⟨{ e.n with ag := ag + 1 }, e.P, e.lv⟩) HE1.out 7 _ rfl rfl, (Ch.ofBelow HLX.out).set _ _ rfl, HBX.out.ch ((Ch.refl (fun q => q = e.P) W).set ⟨e.P, 7, none⟩ _ rfl) (fun h => HPB.out h)⟩
    have HW1 : Hid (W.setCell ⟨e.P, 7, none⟩ (.int .i64 (ag + 1)) = w1) := hw1.symm
    go_upto_region 3 with fail
    rw [HW1.out]
    have d6 := HE2.out.1.cell 6
    have d7 := HE2.out.1.cell 7
    simp only [enC, List.getElem?_toArray, List.getElem?_cons_succ, List.getElem?_cons_zero] at d6 d7
    rw [HST.out.1] at d6
    have d2 : w1.cell? ⟨B, 2, none⟩ = some (.int .i64 c.ev) := HE2.out.2.2.cell 2
    have d4 : w1.cell? ⟨B, 4, none⟩ = some (.int .i64 c.fr) := HE2.out.2.2.cell 4
    clear hw1 HW1 c6 c7 e2 e4 f7
    have OLD : Hid (∀ A, EntAt A ⟨{ e.n with ag := ag + 1 }, e.P, e.lv⟩ → (st ≠ 2 ∨ ag + 1 ≠ c.fr) → EntAt A ⟨oldN c e.n, e.P, e.lv⟩) := fun A hA hc => by
      have : oldN c e.n = { e.n with ag := ag + 1 } := by
        have g3 := HAG1.out
        obtain ⟨g1, g2⟩ := HST.out
        subst g1 g2
        unfold oldN
        rw [g3, if_neg (by omega)]
      rw [this]
      exact hA
    by_cases h1 : st = 1
    · have HD : Hid (dueB c e.n = (ag + 1 == c.ev)) := by show dueB c e.n = _; unfold dueB; rw [HST.out.1, HAG1.out, h1]; rfl
      subst h1
      go_wp2
      go_region
      go_wp2
      go_ret
      exact ⟨by rw [HD.out]; rfl, OLD.out _ (HE2.out.1.below (Below.refl _ _).drew) (.inl (by omega)), HE2.out.2.1.drew⟩
    · by_cases h4 : st = 4
      · have HD : Hid (dueB c e.n = (ag + 1 == c.ev)) := by show dueB c e.n = _; unfold dueB; rw [HST.out.1, HAG1.out, h4]; rfl
        subst h4
        go_wp2
        go_region
        go_wp2
        go_ret
        exact ⟨by rw [HD.out]; rfl, OLD.out _ (HE2.out.1.below (Below.refl _ _).drew) (.inl (by omega)), HE2.out.2.1.drew⟩
      · have HD : Hid (dueB c e.n = false) := by show dueB c e.n = _; unfold dueB; rw [HST.out.1, show (st == 1) = false by simpa using h1, show (st == 4) = false by simpa using h4]; rfl
        have q1 : (st == 1) = false := by simpa using h1
        have q4 : (st == 4) = false := by simpa using h4
        by_cases h2 : st = 2
        · subst h2
          by_cases hf : ag + 1 = c.fr
          · have qf : (ag + 1 == c.fr) = true := by simpa using hf
            have HG : Hid (oldN c e.n = { e.n with st := 3, ag := 0, tr := 0 }) := by show oldN c e.n = _; unfold oldN; rw [HST.out.1, HAG1.out, if_pos ⟨rfl, hf⟩]
            have QT : Hid _ := turn_any ⟨{ e.n with ag := ag + 1 }, e.P, e.lv⟩ 3 0 w1.drew (HE2.out.1.below (Below.refl _ _).drew)
            have HF : Hid (ag + 1 = c.fr) := hf
            clear hf
            go_upto_region 8 with fail
            go_region
            go_wp2_with fail
            refine Calls.mono QT.out ?_
            rintro r w2 ⟨rfl, g1, g2⟩
            have HZ : Hid (EntAt w2 ⟨{ e.n with st := 3, ag := 0, tr := 0 }, e.P, e.lv⟩ ∧ Ch (fun q => q = e.P) w w2) := ⟨g1, HE2.out.2.1.drew.trans g2 (fun _ _ h => h)⟩
            clear g1 g2
            go_wp2_with fail
            go_ret
            exact ⟨by rw [HD.out]; rfl, by rw [HG.out]; exact HZ.out.1, HZ.out.2⟩
          · have qf : (ag + 1 == c.fr) = false := by simpa using hf
            have HF : Hid (ag + 1 ≠ c.fr) := hf
            clear hf
            go_upto_region 8 with fail
            go_region
            go_wp2
            go_ret
            exact ⟨by rw [HD.out]; rfl, OLD.out _ (HE2.out.1.below (Below.refl _ _).drew) (.inr HF.out), HE2.out.2.1.drew⟩
        · have q2 : (st == 2) = false := by simpa using h2
          go_wp2
          go_ret
          exact ⟨by rw [HD.out]; rfl, OLD.out _ HE2.out.1 (.inl h2), HE2.out.2.1⟩
end Go.Proofs.Ytnpipngiehohgaa
