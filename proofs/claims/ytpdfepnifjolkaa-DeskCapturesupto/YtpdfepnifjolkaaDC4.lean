/-
  Layer 20, captures: the document's own ReadCapture.
-/
import Derived.Test.YtpdfepnifjolkaaDC3
namespace Go.Proofs.Ytpdfepnifjolkaa
open Go.RowKit Go.ChangeShapes Go.WideShapes

theorem str_mg (l : List Nat) (h : ∀ x ∈ l, x < 256) : ((strOf l).toList == [87, 69, 73, 82, 67, 65, 80, 49]) = decide (l = mg) := by
  have h1 := str_beq l mg h mg256
  have h2 : (strOf mg).toList = [87, 69, 73, 82, 67, 65, 80, 49] := by rw [ByteArray.toList_eq]; rfl
  rw [← h1, h2]
theorem num4 (a b c d : Nat) : num [a, b, c, d] = a * 16777216 + b * 65536 + c * 256 + d := by simp [num]; omega
theorem num_four {l : List Nat} (h : 8 ≤ l.length) : num (l.take 4) = l.getD 0 0 * 16777216 + l.getD 1 0 * 65536 + l.getD 2 0 * 256 + l.getD 3 0 := by
  match l, h with
  | a :: b :: c :: d :: e :: f :: x :: y :: r, _ => simp [num4, List.getD]
set_option maxHeartbeats 1600000 in
set_option maxRecDepth 100000 in
theorem rread_any (w : World) (a : Option Addr) (n k : Nat) (bs : List Nat) (hn : bs.length = n) (hk : n ≤ k) (hn2 : n ≤ 800000000000) (hs : Seg .u8 w a (toI bs)) (h256 : ∀ x ∈ bs, x < 256) : Calls Try.prog 7 #[.slice a n k] w fun e w' => Below w.heap.size w w' ∧ ∃ v L, Caps w' w.heap.size v L ∧ L.map cvt = (rdA bs).1 ∧ e = .returned (.tuple #[v, .int .i64 (rdA bs).2.1, .int .i64 (rdA bs).2.2]) := by
  have HS : Hid (Seg .u8 w a (toI bs) ∧ bs.length = n ∧ (∀ x ∈ bs, x < 256) ∧ n ≤ k) := ⟨hs, hn, h256, hk⟩
  clear hs hn h256
  obtain ⟨ti, z0, hi, hz0, hz1, hz2, hz3⟩ : ∃ i z, Try.prog.info? 5 = some i ∧ i.zero = some z ∧ i.size = 1 ∧ i.bytes = 1 ∧ z.cells.size = 1 := by
    have h := Try.infoByte
    cases hi : Try.prog.info? 5 with
    | none => rw [hi] at h; cases h
    | some i => rw [hi] at h; simp at h; exact ⟨i, _, rfl, h.1, h.2.1, h.2.2, rfl⟩
  have HIB : Hid (Try.prog.info? 5 = some ti ∧ ti.zero = some z0 ∧ ti.size = 1 ∧ ti.bytes = 1 ∧ z0.cells.size = 1) := ⟨hi, hz0, hz1, hz2, hz3⟩
  clear hi hz0 hz1 hz2 hz3
  go_enter Try.func7, Try.ntmps7
  by_cases h8 : n < 8
  · have g1 : decide ((n : Int) < 8) = true := decide_eq_true (by omega)
    have g2 : decide (n < 8) = true := decide_eq_true h8
    have HF : Hid (rdA bs = ([], 204, 0)) := if_neg (fun e => by have h1 := congrArg List.length e; rw [List.length_take, HS.out.2.1] at h1; have h2 : mg.length = 8 := rfl; omega)
    clear h8
    go_wp2_with fail
    go_ret3
    rw [HF.out]
    exact ⟨Below.refl _ _, _, [], Caps.nil _ _, rfl, rfl⟩
  have g1 : decide ((n : Int) < 8) = false := decide_eq_false (by omega)
  have g2 : decide (n < 8) = false := decide_eq_false h8
  have g3 : (8 : Int) ≤ (k : Int) := by omega
  have H8 : Hid (¬ n < 8) := h8
  have HV : Hid (((strOf (bs.take 8)).toList == [87, 69, 73, 82, 67, 65, 80, 49]) = decide (bs.take 8 = mg)) := str_mg _ (fun x hx => HS.out.2.2.1 x (List.mem_of_mem_take hx))
  have kc := conv_any w a k (bs.take 8) (by have h1 := HS.out.1.part0 8 (by rw [toI_len, HS.out.2.1]; omega); rwa [toI_take] at h1) (fun x hx => HS.out.2.2.1 x (List.mem_of_mem_take hx))
  rw [List.length_take, HS.out.2.1, Nat.min_eq_left (by omega)] at kc
  obtain ⟨s, hs⟩ : ∃ s, s = strOf (bs.take 8) := ⟨_, rfl⟩
  rw [← hs] at kc HV
  clear h8 hs
  by_cases hp : bs.take mg.length = mg
  case neg =>
    have g4 : (s.toList == [87, 69, 73, 82, 67, 65, 80, 49]) = false := by rw [HV.out]; exact decide_eq_false hp
    have HF : Hid (rdA bs = ([], 204, 0)) := if_neg hp
    clear hp
    go_wp2_with fail
    go_ret3
    rw [HF.out]
    exact ⟨Below.refl _ _, _, [], Caps.nil _ _, rfl, rfl⟩
  have g4 : (s.toList == [87, 69, 73, 82, 67, 65, 80, 49]) = true := by rw [HV.out]; exact decide_eq_true hp
  have HP : Hid (rdA bs = rdF bs 8 ∧ 8 ≤ n) := ⟨if_pos hp, by have := H8.out; omega⟩
  clear hp
  go_wp2_with fail
  clear kc g4 g1 g2
  go_loopw [5, 6] (fun lv ix wr => ∃ (i : Nat) (L : List CE), ix = .int .i64 (i : Nat) ∧ i ≤ n ∧ Hid (Caps wr w.heap.size lv L ∧ Below w.heap.size w wr ∧ app (L.map cvt) (rdF bs i) = rdF bs 8 ∧ L.length * 8 ≤ i)) (fun _ ix _ => n - (intOf ix).toNat)
  case atStart => exact ⟨8, [], rfl, HP.out.2, Caps.nil _ _, Below.refl _ _, app_nil _ (rdF_nil bs 8), by simp⟩
  case round =>
    obtain ⟨i, L, rfl, hi, HI⟩ := hrel
    by_cases hin : i < n
    · have p1 : decide ((i : Int) < (n : Int)) = true := decide_eq_true (by omega)
      have p2 : decide (i < n) = true := decide_eq_true hin
      obtain ⟨b, off, rfl, hc⟩ := seg_at HS.out.1 i (by rw [HS.out.2.1]; exact hin)
      have i0 : (0 : Int) ≤ (i : Int) := by omega
      have i2 : ((i : Int)).toNat = i := by omega
      have i3 : ¬ k = i := by omega
      have wd : IntKind.i64.wrap ((n : Int) - (i : Int)) = (n : Int) - (i : Int) := i64_s _ (by omega) (by omega)
      have HIN : Hid (i < n ∧ i < bs.length) := ⟨hin, by rw [HS.out.2.1]; exact hin⟩
      obtain ⟨l, hl⟩ : ∃ l, l = bs.drop i := ⟨_, rfl⟩
      have HL : Hid (l = bs.drop i ∧ l.length = n - i ∧ ∀ x ∈ l, x < 256) := ⟨hl, by rw [hl, List.length_drop, HS.out.2.1], fun x hx => HS.out.2.2.1 x (List.mem_of_mem_drop (by rw [← hl]; exact hx))⟩
      have HC : Hid (∀ W : World, Below w.heap.size w W → ∀ j, i + j < n → W.cell? ⟨b, off + i + j, none⟩ = some (.int .u8 ((l.getD j 0 : Nat) : Int))) := fun W hW j hj => by
        have h1 := hc (i + j) (by rw [HS.out.2.1]; exact hj)
        have h2 : l.getD j 0 = bs.getD (i + j) 0 := by rw [hl]; simp [List.getD, List.getElem?_drop]
        rw [h2, Nat.add_assoc]
        exact (hW.cell (p := ⟨b, off + (i + j), none⟩) (World.block_lt_of_cell? w _ h1)).trans h1
      clear hl hc
      by_cases hs8 : n - i < 8
      · have q1 : decide ((n : Int) - (i : Int) < 8) = true := decide_eq_true (by omega)
        have HF : Hid (rdF bs i = ([], 204, ((i + 0 : Nat) : Int))) := rdF_bad bs i 0 HIN.out.2 (by rw [← HL.out.1]; exact if_pos (by rw [HL.out.2.1]; exact hs8))
        clear hs8
        go_wp2_with fail
        go_ret3
        have h1 := HI.out.2.2.1
        rw [HF.out] at h1
        have h2 : rdA bs = ([], 204, ((i + 0 : Nat) : Int)) := by rw [HP.out.1, ← h1]; rfl
        rw [h2]
        exact ⟨HI.out.2.1, _, [], Caps.nil _ _, rfl, by simp⟩

      have q1 : decide ((n : Int) - (i : Int) < 8) = false := decide_eq_false (by omega)
      have HN8 : Hid (¬ n - i < 8) := hs8
      have q2 : IntKind.i64.wrap ((i : Int) + 8) = (i : Int) + 8 := i64_s _ (by omega) (by omega)
      have q3 : (i : Int) ≤ (i : Int) + 8 := by omega
      have q4 : (i : Int) + 8 ≤ (k : Int) := by omega
      have q5 : ((i : Int) + 8).toNat = i + 8 := by omega
      have q6 : i + 8 - i = 8 := by omega
      obtain ⟨y5, hy5⟩ : ∃ y, y = l.getD 5 0 := ⟨_, rfl⟩
      have c5 := HC.out wr HI.out.2.1 5 (by omega)
      rw [← hy5] at c5
      have HY5 : Hid (y5 = l.getD 5 0) := hy5
      have hy52 : y5 < 256 := by rw [hy5]; exact get256 HL.out.2.2 5
      clear hy5 hs8
      by_cases h1 : 1 < y5
      · have g3 : decide ((1 : Int) < (y5 : Int)) = true := decide_eq_true (by omega)
        have g4 : decide (1 < y5) = true := decide_eq_true h1
        have w5 : IntKind.i64.wrap ((i : Int) + 5) = (i : Int) + 5 := i64_s _ (by omega) (by omega)
        have HF : Hid (rdF bs i = ([], 204, ((i + 5 : Nat) : Int))) := rdF_bad bs i 5 HIN.out.2 (by rw [← HL.out.1]; unfold badF; rw [if_neg (by rw [HL.out.2.1]; exact HN8.out), if_pos (by rw [← HY5.out]; exact h1)])
        clear h1
        go_wp2_with fail
        go_ret3
        have h1 := HI.out.2.2.1
        rw [HF.out] at h1
        have h2 : rdA bs = ([], 204, ((i + 5 : Nat) : Int)) := by rw [HP.out.1, ← h1]; rfl
        rw [h2]
        exact ⟨HI.out.2.1, _, [], Caps.nil _ _, rfl, by simp⟩

      have g3 : decide ((1 : Int) < (y5 : Int)) = false := decide_eq_false (by omega)
      have g4 : decide (1 < y5) = false := decide_eq_false h1
      have HN5 : Hid (¬ 1 < y5) := h1
      clear h1
      go_upto_region 11 with fail
      clear c5 g3 g4 q1
      obtain ⟨y6, hy6⟩ : ∃ y, y = l.getD 6 0 := ⟨_, rfl⟩
      obtain ⟨y7, hy7⟩ : ∃ y, y = l.getD 7 0 := ⟨_, rfl⟩
      have hy62 : y6 < 256 := by rw [hy6]; exact get256 HL.out.2.2 6
      have hy72 : y7 < 256 := by rw [hy7]; exact get256 HL.out.2.2 7
      obtain ⟨sz, hsz⟩ : ∃ z, z = 256 * y6 + y7 := ⟨_, rfl⟩
      have HSZ : Hid (sz = szF l ∧ sz < 65536) := ⟨by rw [hsz, hy6, hy7]; rfl, by omega⟩
      have HC6 : Hid (∀ W : World, Below w.heap.size w W → W.cell? ⟨b, off + i + 6, none⟩ = some (.int .u8 (y6 : Int)) ∧ W.cell? ⟨b, off + i + 7, none⟩ = some (.int .u8 (y7 : Int))) := fun W hW => ⟨by rw [hy6]; exact HC.out W hW 6 (by have := HN8.out; omega), by rw [hy7]; exact HC.out W hW 7 (by have := HN8.out; omega)⟩
      have w6 : IntKind.i64.wrap ((y6 : Int) * 256) = (y6 : Int) * 256 := i64_s _ (by omega) (by omega)
      have w7 : IntKind.i64.wrap ((y6 : Int) * 256 + (y7 : Int)) = (sz : Int) := by rw [i64_s _ (by omega) (by omega)]; omega
      have w8 : IntKind.i64.wrap (y6 : Int) = (y6 : Int) := i64_s _ (by omega) (by omega)
      have w9 : IntKind.i64.wrap (y7 : Int) = (y7 : Int) := i64_s _ (by omega) (by omega)
      clear hy6 hy7 hsz
      refine MixH.start (fun A => Below w.heap.size w A) (by kernel_rfl) ?_
      obtain ⟨wA, hwA⟩ : ∃ W_, W_ = wr.drew := ⟨_, rfl⟩
      have bdr : Below wr.heap.size wr wA := by rw [hwA]; exact (Below.refl _ _).drew
      have hS : Below w.heap.size w wA := HI.out.2.1.trans (bdr.mono HI.out.2.1.size)
      have HIA : Hid (Caps wA w.heap.size u5 L) := HI.out.1.below bdr
      rw [← hwA]
      clear hwA bdr
      refine MixH.takes [true, true, false, false, false, true, true] 7 (by kernel_rfl) (by kernel_rfl) (by decide) (by kernel_rfl) hS (fun K hK => ?_)
      simp only [Mix.pick]
      repeat (go_big_quiet_step (fail))
      refine wpQuiet_nil (hK _ ?_)
      clear hK K
      refine MixH.take 6 2 _ (.int .u8 (y6 : Int)) rfl (by kernel_rfl) (by kernel_rfl) (by kernel_rfl) (by kernel_rfl) (yields_u8 (.tmp 41) rfl ⟨b, off + i + 6, none⟩ (.int .u8 (y6 : Int)) rfl rfl (fun A hA => (HC6.out A hA).1)) hS (fun a' ha => ?_)
      simp only [Act.put, List.setIfInBounds_toArray, List.set_cons_succ, List.set_cons_zero] at ha
      subst ha
      refine MixH.takes [false, false, false, true, true] 4 (by kernel_rfl) (by kernel_rfl) (by decide) (by kernel_rfl) hS (fun K hK => ?_)
      simp only [Mix.pick]
      repeat (go_big_quiet_step (fail))
      refine wpQuiet_nil (hK _ ?_)
      clear hK K
      refine MixH.take 3 7 _ (.int .u8 (y7 : Int)) rfl (by kernel_rfl) (by kernel_rfl) (by kernel_rfl) (by kernel_rfl) (yields_u8 (.tmp 46) rfl ⟨b, off + i + 7, none⟩ (.int .u8 (y7 : Int)) rfl rfl (fun A hA => (HC6.out A hA).2)) hS (fun a' ha => ?_)
      simp only [Act.put, List.setIfInBounds_toArray, List.set_cons_succ, List.set_cons_zero] at ha
      subst ha
      refine MixH.takes [false, false, false, false, false, false, false, false, true, true, true] 0 (by kernel_rfl) (by kernel_rfl) (by decide) (by kernel_rfl) hS (fun K hK => ?_)
      simp only [Mix.pick]
      repeat (go_big_quiet_step (fail))
      refine wpQuiet_nil (hK _ ?_)
      clear hK K
      refine MixH.done (by kernel_rfl) ?_

      clear w6 w7 w8 w9 HC6 hy62 hy72
      have HIB2 : Hid (Caps wA w.heap.size u5 L ∧ Below w.heap.size w wA) := ⟨HIA.out, hS⟩
      clear hS HIA
      have hz2 : sz < 65536 := HSZ.out.2
      have w6 : IntKind.i64.wrap ((n : Int) - (i : Int) - 8) = (n : Int) - (i : Int) - 8 := i64_s _ (by omega) (by omega)
      by_cases hsh : n - i < 8 + sz
      · have q1 : decide ((n : Int) - (i : Int) - 8 < (sz : Int)) = true := decide_eq_true (by have := HN8.out; omega)
        have HF : Hid (rdF bs i = ([], 204, ((i + 0 : Nat) : Int))) := rdF_bad bs i 0 HIN.out.2 (by rw [← HL.out.1]; unfold badF; rw [if_neg (by rw [HL.out.2.1]; exact HN8.out), if_neg (by rw [← HY5.out]; exact HN5.out), if_pos (by rw [HL.out.2.1, ← HSZ.out.1]; exact hsh)])
        clear hsh
        go_wp2_with fail
        go_ret3
        have h1 := HI.out.2.2.1
        rw [HF.out] at h1
        have h2 : rdA bs = ([], 204, ((i + 0 : Nat) : Int)) := by rw [HP.out.1, ← h1]; rfl
        rw [h2]
        exact ⟨HIB2.out.2, _, [], Caps.nil _ _, rfl, by simp⟩

      have q1 : decide ((n : Int) - (i : Int) - 8 < (sz : Int)) = false := decide_eq_false (by omega)
      have HBF : Hid (badF l = none) := by show _ = _; unfold badF; rw [if_neg (by rw [HL.out.2.1]; exact HN8.out), if_neg (by rw [← HY5.out]; exact HN5.out), if_neg (by rw [HL.out.2.1, ← HSZ.out.1]; exact hsh)]
      have HSH : Hid (¬ n - i < 8 + sz) := hsh
      clear hsh
      go_upto_region 15 with fail
      clear q1 w6
      have hfit : i + (8 + sz) ≤ n := by have h1 := HSH.out; have h2 := HN8.out; omega
      have r1 : IntKind.i64.wrap ((i : Int) + 8 + (sz : Int)) = (i : Int) + 8 + (sz : Int) := i64_s _ (by omega) (by omega)
      have r2 : (i : Int) + 8 ≤ (i : Int) + 8 + (sz : Int) := by omega
      have r3 : (i : Int) + 8 + (sz : Int) ≤ (k : Int) := by omega
      have r4 : (0 : Int) ≤ (i : Int) + 8 := by omega
      have r5 : ((i : Int) + 8 + (sz : Int)).toNat = i + 8 + sz := by omega
      have r6 : i + 8 + sz - (i + 8) = sz := by omega
      obtain ⟨ad, had⟩ : ∃ ad, (if k = i + 8 then some (⟨b, off, none⟩ : Addr) else some ⟨b, off + (i + 8), none⟩) = ad := ⟨_, rfl⟩
      obtain ⟨dd, hdd⟩ : ∃ d, d = (l.drop 8).take sz := ⟨_, rfl⟩
      have HDD : Hid (dd = (l.drop 8).take sz ∧ dd.length = sz) := ⟨hdd, by rw [hdd, List.length_take, List.length_drop, HL.out.2.1]; have := HSH.out; omega⟩
      have HSA : Hid (Seg .u8 wA ad (toI dd)) := by
        show Seg _ _ _ _
        by_cases e : k = i + 8
        · left
          have h0 : dd.length = 0 := by rw [HDD.out.2]; omega
          rw [List.eq_nil_of_length_eq_zero h0]; rfl
        · rw [if_neg e] at had
          subst had
          have h1 := HS.out.1.part (i + 8) sz (by rw [toI_len, HS.out.2.1]; omega)
          rw [toI_drop, toI_take, Option.map_some, Addr.add_lit] at h1
          have h2 : (bs.drop (i + 8)).take sz = dd := by rw [hdd, HL.out.1, List.drop_drop]
          rw [h2] at h1
          exact h1.old HIB2.out.2
      clear hdd
      go_upto_region 16 with (first | (at_builtin; refine append_split_seg rfl (.tmp 58) (.tmp 66) 22 rfl wA.heap.size 5 ti z0 1 Try.underlying22 HIB.out.1 HIB.out.2.1 HIB.out.2.2.1 HIB.out.2.2.2.1 HIB.out.2.2.2.2 (.slice none 0 0) 0 [] rfl (World.ownsRow_nil _ _ _ _) .u8 ad sz _ (toI dd) rfl (by rw [toI_len]; exact HDD.out.2) HSA.out (by unfold maxLen; omega) (by omega) (by simp) ?_))
      intro v' wB ho' _ hg
      have HBB : Hid (Caps wB w.heap.size u5 L ∧ Below w.heap.size w wB ∧ OwnB wB wA.heap.size v' sz dd) := by
        have hb : Below wA.heap.size wA wB := ⟨hg.os, hg.tape, hg.output, hg.size, fun q hq => hg.block q hq (by simp [Value.ownBlock])⟩
        exact ⟨HIB2.out.1.below hb, HIB2.out.2.trans (hb.mono HIB2.out.2.size), ho'⟩
      obtain ⟨va, vc, rfl⟩ := owns_shape ho'
      clear ho' hg HSA had
      go_upto_region 16 with fail
      clear r1 r2 r3 r4 r5 r6
      obtain ⟨y0, hy0⟩ : ∃ y, y = l.getD 0 0 := ⟨_, rfl⟩
      have hy02 : y0 < 256 := by rw [hy0]; exact get256 HL.out.2.2 0
      have v0 : IntKind.i64.wrap (y0 : Int) = (y0 : Int) := i64_s _ (by omega) (by omega)
      obtain ⟨y1, hy1⟩ : ∃ y, y = l.getD 1 0 := ⟨_, rfl⟩
      have hy12 : y1 < 256 := by rw [hy1]; exact get256 HL.out.2.2 1
      have v1 : IntKind.i64.wrap (y1 : Int) = (y1 : Int) := i64_s _ (by omega) (by omega)
      obtain ⟨y2, hy2⟩ : ∃ y, y = l.getD 2 0 := ⟨_, rfl⟩
      have hy22 : y2 < 256 := by rw [hy2]; exact get256 HL.out.2.2 2
      have v2 : IntKind.i64.wrap (y2 : Int) = (y2 : Int) := i64_s _ (by omega) (by omega)
      obtain ⟨y3, hy3⟩ : ∃ y, y = l.getD 3 0 := ⟨_, rfl⟩
      have hy32 : y3 < 256 := by rw [hy3]; exact get256 HL.out.2.2 3
      have v3 : IntKind.i64.wrap (y3 : Int) = (y3 : Int) := i64_s _ (by omega) (by omega)
      obtain ⟨y4, hy4⟩ : ∃ y, y = l.getD 4 0 := ⟨_, rfl⟩
      have hy42 : y4 < 256 := by rw [hy4]; exact get256 HL.out.2.2 4
      have v4 : IntKind.i64.wrap (y4 : Int) = (y4 : Int) := i64_s _ (by omega) (by omega)
      have HCC : Hid (∀ W : World, Below w.heap.size w W → W.cell? ⟨b, off + i, none⟩ = some (.int .u8 (y0 : Int)) ∧ W.cell? ⟨b, off + i + 1, none⟩ = some (.int .u8 (y1 : Int)) ∧ W.cell? ⟨b, off + i + 2, none⟩ = some (.int .u8 (y2 : Int)) ∧ W.cell? ⟨b, off + i + 3, none⟩ = some (.int .u8 (y3 : Int)) ∧ W.cell? ⟨b, off + i + 4, none⟩ = some (.int .u8 (y4 : Int)) ∧ W.cell? ⟨b, off + i + 5, none⟩ = some (.int .u8 (y5 : Int))) := fun W hW => by
        have hx := fun j hj => HC.out W hW j hj
        have h8 := HN8.out
        refine ⟨by rw [hy0]; exact hx 0 (by omega), by rw [hy1]; exact hx 1 (by omega), by rw [hy2]; exact hx 2 (by omega), by rw [hy3]; exact hx 3 (by omega), by rw [hy4]; exact hx 4 (by omega), by rw [HY5.out]; exact hx 5 (by omega)⟩
      obtain ⟨x4, hx4⟩ : ∃ x, x = y0 * 16777216 + y1 * 65536 + y2 * 256 + y3 := ⟨_, rfl⟩
      have HX4 : Hid (x4 = num (l.take 4) ∧ y4 = l.getD 4 0) := ⟨by rw [hx4, num_four (by rw [HL.out.2.1]; have := HN8.out; omega), hy0, hy1, hy2, hy3], hy4⟩
      have s0 : IntKind.i64.wrap ((y0 : Int) * 16777216) = (y0 : Int) * 16777216 := i64_s _ (by omega) (by omega)
      have s1 : IntKind.i64.wrap ((y1 : Int) * 65536) = (y1 : Int) * 65536 := i64_s _ (by omega) (by omega)
      have s2 : IntKind.i64.wrap ((y2 : Int) * 256) = (y2 : Int) * 256 := i64_s _ (by omega) (by omega)
      have s3 : IntKind.i64.wrap ((y0 : Int) * 16777216 + (y1 : Int) * 65536) = (y0 : Int) * 16777216 + (y1 : Int) * 65536 := i64_s _ (by omega) (by omega)
      have s4 : IntKind.i64.wrap ((y0 : Int) * 16777216 + (y1 : Int) * 65536 + (y2 : Int) * 256) = (y0 : Int) * 16777216 + (y1 : Int) * 65536 + (y2 : Int) * 256 := i64_s _ (by omega) (by omega)
      have s5 : IntKind.i64.wrap ((y0 : Int) * 16777216 + (y1 : Int) * 65536 + (y2 : Int) * 256 + (y3 : Int)) = (x4 : Int) := by rw [i64_s _ (by omega) (by omega)]; omega
      clear hy0 hy1 hy2 hy3 hy4 hx4
      have HLN : Hid (L.length ≤ 100000000000) := by have h1 := HI.out.2.2.2; show _ ≤ _; omega
      obtain ⟨lva, lvc, hlv⟩ := HBB.out.1.l.form
      obtain ⟨m, hm⟩ : ∃ m, m = L.length := ⟨_, rfl⟩
      rw [← hm] at hlv
      subst hlv
      clear hm
      refine MixH.start (fun A => Below w.heap.size w A) (by kernel_rfl) ?_
      obtain ⟨wC, hwA⟩ : ∃ W_, W_ = wB.drew := ⟨_, rfl⟩
      have bdr : Below wB.heap.size wB wC := by rw [hwA]; exact (Below.refl _ _).drew
      have hS : Below w.heap.size w wC := HBB.out.2.1.trans (bdr.mono HBB.out.2.1.size)
      have HCB : Hid (Caps wC w.heap.size (.slice lva m lvc) L ∧ OwnB wC wA.heap.size (.slice va sz vc) sz dd) := ⟨HBB.out.1.below bdr, Below.owns_ch HBB.out.2.2 bdr⟩
      rw [← hwA]
      clear hwA bdr
      refine MixH.takes [true, true, true, false, false, false, true, true, false, false, false, false, true, true, false, false, false, false, true, true, false, false, false, true, true, false, false, true, true, false, false, true] 22 (by kernel_rfl) (by kernel_rfl) (by decide) (by kernel_rfl) hS (fun K hK => ?_)
      simp only [Mix.pick]
      repeat (go_big_quiet_step (fail))
      refine wpQuiet_nil (hK _ ?_)
      clear hK K
      refine MixH.take 21 3 _ (.int .u8 (y0 : Int)) rfl (by kernel_rfl) (by kernel_rfl) (by kernel_rfl) (by kernel_rfl) (yields_u8 (.tmp 70) rfl ⟨b, off + i, none⟩ (.int .u8 (y0 : Int)) rfl rfl (fun A hA => (HCC.out A hA).1)) hS (fun a' ha => ?_)
      simp only [Act.put, List.setIfInBounds_toArray, List.set_cons_succ, List.set_cons_zero] at ha
      subst ha
      refine MixH.takes [false, false, false, false, true, true] 19 (by kernel_rfl) (by kernel_rfl) (by decide) (by kernel_rfl) hS (fun K hK => ?_)
      simp only [Mix.pick]
      repeat (go_big_quiet_step (fail))
      refine wpQuiet_nil (hK _ ?_)
      clear hK K
      refine MixH.take 18 8 _ (.int .u8 (y1 : Int)) rfl (by kernel_rfl) (by kernel_rfl) (by kernel_rfl) (by kernel_rfl) (yields_u8 (.tmp 75) rfl ⟨b, off + i + 1, none⟩ (.int .u8 (y1 : Int)) rfl rfl (fun A hA => (HCC.out A hA).2.1)) hS (fun a' ha => ?_)
      simp only [Act.put, List.setIfInBounds_toArray, List.set_cons_succ, List.set_cons_zero] at ha
      subst ha
      refine MixH.takes [false, false, false, false, false, false, false, false, false, true, true, true] 15 (by kernel_rfl) (by kernel_rfl) (by decide) (by kernel_rfl) hS (fun K hK => ?_)
      simp only [Mix.pick]
      repeat (go_big_quiet_step (fail))
      refine wpQuiet_nil (hK _ ?_)
      clear hK K
      refine MixH.take 14 14 _ (.int .u8 (y2 : Int)) rfl (by kernel_rfl) (by kernel_rfl) (by kernel_rfl) (by kernel_rfl) (yields_u8 (.tmp 81) rfl ⟨b, off + i + 2, none⟩ (.int .u8 (y2 : Int)) rfl rfl (fun A hA => (HCC.out A hA).2.2.1)) hS (fun a' ha => ?_)
      simp only [Act.put, List.setIfInBounds_toArray, List.set_cons_succ, List.set_cons_zero] at ha
      subst ha
      refine MixH.takes [false, false, false, false, false, false, false, false, false, false, false, false, false, false, false, true, true, true] 11 (by kernel_rfl) (by kernel_rfl) (by decide) (by kernel_rfl) hS (fun K hK => ?_)
      simp only [Mix.pick]
      repeat (go_big_quiet_step (fail))
      refine wpQuiet_nil (hK _ ?_)
      clear hK K
      refine MixH.take 10 20 _ (.int .u8 (y3 : Int)) rfl (by kernel_rfl) (by kernel_rfl) (by kernel_rfl) (by kernel_rfl) (yields_u8 (.tmp 87) rfl ⟨b, off + i + 3, none⟩ (.int .u8 (y3 : Int)) rfl rfl (fun A hA => (HCC.out A hA).2.2.2.1)) hS (fun a' ha => ?_)
      simp only [Act.put, List.setIfInBounds_toArray, List.set_cons_succ, List.set_cons_zero] at ha
      subst ha
      refine MixH.takes [false, false, false, false, false, false, false, false, false, false, false, false, false, false, false, false, false, false, false, false, false, true, true] 8 (by kernel_rfl) (by kernel_rfl) (by decide) (by kernel_rfl) hS (fun K hK => ?_)
      simp only [Mix.pick]
      repeat (go_big_quiet_step (fail))
      refine wpQuiet_nil (hK _ ?_)
      clear hK K
      refine MixH.take 7 25 _ (.int .u8 (y4 : Int)) rfl (by kernel_rfl) (by kernel_rfl) (by kernel_rfl) (by kernel_rfl) (yields_u8 (.tmp 92) rfl ⟨b, off + i + 4, none⟩ (.int .u8 (y4 : Int)) rfl rfl (fun A hA => (HCC.out A hA).2.2.2.2.1)) hS (fun a' ha => ?_)
      simp only [Act.put, List.setIfInBounds_toArray, List.set_cons_succ, List.set_cons_zero] at ha
      subst ha
      refine MixH.takes [false, false, false, false, false, false, false, false, false, false, false, false, false, false, false, false, false, false, false, false, false, false, false, false, false, false, true] 6 (by kernel_rfl) (by kernel_rfl) (by decide) (by kernel_rfl) hS (fun K hK => ?_)
      simp only [Mix.pick]
      repeat (go_big_quiet_step (fail))
      refine wpQuiet_nil (hK _ ?_)
      clear hK K
      refine MixH.take 5 29 _ (.int .u8 (y5 : Int)) rfl (by kernel_rfl) (by kernel_rfl) (by kernel_rfl) (by kernel_rfl) (yields_u8 (.tmp 96) rfl ⟨b, off + i + 5, none⟩ (.int .u8 (y5 : Int)) rfl rfl (fun A hA => (HCC.out A hA).2.2.2.2.2)) hS (fun a' ha => ?_)
      simp only [Act.put, List.setIfInBounds_toArray, List.set_cons_succ, List.set_cons_zero] at ha
      subst ha
      refine MixH.takes [false, false, false, false, false, false, false, false, false, false, false, false, false, false, false, false, false, false, false, false, false, false, false, false, false, false, false, false, false, false, true] 4 (by kernel_rfl) (by kernel_rfl) (by decide) (by kernel_rfl) hS (fun K hK => ?_)
      simp only [Mix.pick]
      repeat (go_big_quiet_step (fail))
      refine wpQuiet_nil (hK _ ?_)
      clear hK K
      refine MixH.one [false, false, false, false, false, false, false, false, false, false, false, false, false, false, false, false, false, false, false, false, false, false, false, false, false, false, false, false, false, false, false, false, true] 3 32 _ rfl rfl (by kernel_rfl) (by kernel_rfl) (fun K hK => ?_)
      simp only [Mix.pick]
      refine wpList_bcap (.tmp 90) (.tmp 94) (.tmp 98) (.tmp 99) rfl (x4 : Int) (y4 : Int) ((y5 : Int) == 1) va sz vc rfl rfl rfl rfl rfl ?_
      refine ⟨rfl, hK _ _ hS ?_⟩
      clear hK K
      simp only [Act.put, List.setIfInBounds_toArray, List.set_cons_succ, List.set_cons_zero]
      refine MixH.one [false, false, false, false, false, false, false, false, false, false, false, false, false, false, false, false, false, false, false, false, false, false, false, false, false, false, false, false, false, false, false, false, false, true] 2 33 _ rfl rfl (by kernel_rfl) (by kernel_rfl) (fun K hK => ?_)
      simp only [Mix.pick]
      refine wpList_bs1c (.tmp 100) rfl ⟨(x4 : Int), (y4 : Int), (y5 : Int) == 1, dd, va, vc⟩ (by show Value.agg #[_, _, _, .slice va sz vc] = .agg (ceA _); unfold ceA; rw [HDD.out.2]) rfl ?_
      intro B W hB hR bW
      have HD : Hid (Caps W w.heap.size (.slice lva m lvc) L ∧ OwnB W wA.heap.size (.slice va sz vc) sz dd ∧ W.rangeAt B 0 (ceL ⟨(x4 : Int), (y4 : Int), (y5 : Int) == 1, dd, va, vc⟩) ∧ B < W.heap.size) := ⟨HCB.out.1.below bW, Below.owns_ch HCB.out.2 bW, hR, by have := hB.out; omega⟩
      replace hS : Below w.heap.size w W := hS.trans (bW.mono hS.size)
      clear hB hR bW
      refine ⟨rfl, hK _ _ hS ?_⟩
      clear hK K
      simp only [Act.put, List.setIfInBounds_toArray, List.set_cons_succ, List.set_cons_zero]
      refine MixH.one [false, false, false, false, false, false, false, false, false, false, false, false, false, false, false, false, false, false, false, false, false, false, false, false, false, false, false, false, false, false, false, false, false, false, true] 1 34 _ rfl rfl (by kernel_rfl) (by kernel_rfl) (fun K hK => ?_)
      simp only [Mix.pick]
      refine wpList_app1H ceL_len ceL_one (by decide) rfl (.tmp 68) (.tmp 101) 23 37 rfl Try.underlying23 info_ce w.heap.size (.slice lva m lvc) L rfl HD.out.1.l B 1 ⟨(x4 : Int), (y4 : Int), (y5 : Int) == 1, dd, va, vc⟩ rfl HD.out.2.2.2 HD.out.2.2.1 HLN.out hS.size ?_
      intro vb wb gb kb _
      have HE : Hid (Caps wb w.heap.size vb (L ++ [⟨(x4 : Int), (y4 : Int), (y5 : Int) == 1, dd, va, vc⟩])) := HD.out.1.push (w0 := wA) gb kb (by show OwnB W wA.heap.size (.slice va dd.length vc) dd.length dd; rw [HDD.out.2]; exact HD.out.2.1) HIB2.out.2.size (fun e he g hg => HIB2.out.1.lt e he g hg)
      replace hS : Below w.heap.size w wb := hS.trans ((Ch.ofGrown kb).below (fun q hq => (HD.out.1.l.kind q hq).1) hS.size)
      clear gb kb HD HCB
      refine ⟨rfl, hK _ _ hS ?_⟩
      clear hK K
      simp only [Act.put, List.setIfInBounds_toArray, List.set_cons_succ, List.set_cons_zero]
      refine MixH.takes [false, false, false, false, false, false, false, false, false, false, false, false, false, false, false, false, false, false, false, false, false, false, false, false, false, false, false, false, false, false, false, false, false, false, false, true] 0 (by kernel_rfl) (by kernel_rfl) (by decide) (by kernel_rfl) hS (fun K hK => ?_)
      simp only [Mix.pick]
      repeat (go_big_quiet_step (fail))
      refine wpQuiet_nil (hK _ ?_)
      clear hK K
      refine MixH.done (by kernel_rfl) ?_
      clear s0 s1 s2 s3 s4 s5 v0 v1 v2 v3 v4
      have HB9 : Hid (Caps wb w.heap.size vb (L ++ [⟨(x4 : Int), (y4 : Int), (y5 : Int) == 1, dd, va, vc⟩]) ∧ Below w.heap.size w wb) := ⟨HE.out, hS⟩
      clear hS HE
      go_wp2
      have t1 : IntKind.i64.wrap ((i : Int) + 8 + (sz : Int)) = (i : Int) + 8 + (sz : Int) := i64_s _ (by omega) (by omega)
      go_wp2
      go_roundw
      case rel =>
        refine ⟨i + (8 + sz), L ++ [⟨(x4 : Int), (y4 : Int), (y5 : Int) == 1, dd, va, vc⟩], by go_num, by omega, HB9.out.1, HB9.out.2, ?_, ?_⟩
        · have h1 : cvt ⟨(x4 : Int), (y4 : Int), (y5 : Int) == 1, dd, va, vc⟩ = frF l := by
            have eu : (y5 == 1) = ((y5 : Int) == 1) := by rw [Bool.eq_iff_iff]; simp; omega
            unfold cvt frF
            rw [← HX4.out.1, ← HX4.out.2, ← HY5.out, eu, HDD.out.1, HSZ.out.1]
          have h2 := rdF_step (L.map cvt) bs i HIN.out.2 (by rw [← HL.out.1]; exact HBF.out)
          rw [← HL.out.1] at h2
          rw [List.map_append, List.map_cons, List.map_nil, h1, HSZ.out.1, ← h2]
          exact HI.out.2.2.1
        · have h1 := HI.out.2.2.2
          rw [List.length_append, List.length_cons, List.length_nil]
          omega
      case measure => simp [intOf]; omega
    · have p1 : decide ((i : Int) < (n : Int)) = false := decide_eq_false (by omega)
      have p2 : decide (i < n) = false := decide_eq_false hin
      have HF : Hid (app (L.map cvt) ([], 0, 0) = rdF bs 8) := by
        have h1 := HI.out.2.2.1
        rwa [rdF_end bs i (by rw [HS.out.2.1]; exact hin)] at h1
      clear hin
      go_wp2_with fail
      go_ret3
      have h2 : rdA bs = (L.map cvt, 0, 0) := by
        rw [HP.out.1, ← HF.out]
        simp [app]
      rw [h2]
      exact ⟨HI.out.2.1, _, L, HI.out.1, rfl, rfl⟩
end Go.Proofs.Ytpdfepnifjolkaa
