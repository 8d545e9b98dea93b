/-
  Layer 4: addr.ParseMac.
-/
import Derived.Test.YtfeabifjnihooaaDoorAdY4
namespace Go.Proofs.YtfeabifjnihooaaDoor
open Go.RowKit Go.Maps

theorem results_mac_tmp2 {fn : Func} {p u0 u1 : Tmp} (h : fn.results = #[.cell p 42, .tmp u0, .tmp u1]) (tmps : Array Value) (w : World) (O : Nat) (f : Nat → Nat) (hp : tmps.getD p undef = .pointer (some ⟨O, 0, none⟩)) (hb : MacAt w O f) :
    (results fn tmps).run Tryd.prog w = .ok (.tuple #[.agg (macC f), tmps.getD u0 undef, tmps.getD u1 undef]) w := by
  have hp' : tmps[p]?.getD undef = .pointer (some ⟨O, 0, none⟩) := by simpa using hp
  simp [results, h, hp', asAddr, run_loadVar_row w O _ 42 (macC f) _ _ hb Tryd.underlying42 rfl Tryd.size_mac]
theorem macC_set (m : Nat → Nat) (i v : Nat) (h : i < 6) : (macC m).setIfInBounds i (.int .u8 (v : Nat)) = macC (up1 m i v) := by
  rcases (show i = 0 ∨ i = 1 ∨ i = 2 ∨ i = 3 ∨ i = 4 ∨ i = 5 by omega) with rfl | rfl | rfl | rfl | rfl | rfl <;> simp [macC, up1]
theorem macC_at (m : Nat → Nat) (i : Nat) (h : i < 6) : (macC m)[i]? = some (.int .u8 (m i : Nat)) := by
  rcases (show i = 0 ∨ i = 1 ∨ i = 2 ∨ i = 3 ∨ i = 4 ∨ i = 5 by omega) with rfl | rfl | rfl | rfl | rfl | rfl <;> rfl
theorem MacAt.set {w : World} {O : Nat} {m : Nat → Nat} (h : MacAt w O m) (i v : Nat) (hi : i < 6) : MacAt (w.setCell ⟨O, i, none⟩ (.int .u8 (v : Nat))) O (up1 m i v) := by
  have k := heap_setCell_same w O i _ _ (.int .u8 (v : Nat)) h
  rw [macC_set m i v hi] at k
  exact k
theorem or_nib (m d : Nat) (hd : d < 16) : bits BinOp.or IntKind.u8 ((m : Int) * 16 % 256) (d : Int) = (((16 * m + d) % 256 : Nat) : Int) := by
  have k : ∀ a b : Fin 16, 16 * a.val ||| b.val = 16 * a.val + b.val := by decide +kernel
  have h := k ⟨m % 16, Nat.mod_lt _ (by omega)⟩ ⟨d, hd⟩
  have e1 : ((m : Int) * 16 % 256) = ((16 * (m % 16) : Nat) : Int) := by omega
  rw [e1, Go.u8_or_nat _ _ (by omega) (by omega)]
  congr 1
  have h' : 16 * (m % 16) ||| d = 16 * (m % 16) + d := h
  rw [h']
  omega
/-- the reader, the address read so far, the answer's block -/
def MS (w A : World) (B R M : Nat) (s : ByteArray) (p : Nat) (m : Nat → Nat) : Prop := RdAt A R s p ∧ MacAt A M m ∧ MacAt A B mz ∧ Below w.heap.size w A
theorem MS.no {w A A' : World} {B R M : Nat} {s : ByteArray} {p : Nat} {m : Nat → Nat} (h : MS w A B R M s p m) (c : NoCh A A') : MS w A' B R M s p m := ⟨rd_no h.1 c, h.2.1.ch c (fun h => h), h.2.2.1.ch c (fun h => h), h.2.2.2.trans (c.below (fun _ h => h.elim) h.2.2.2.size)⟩
theorem MS.rd {w A A' : World} {B R M : Nat} {s : ByteArray} {p q : Nat} {m : Nat → Nat} (h : MS w A B R M s p m) (h1 : M ≠ R) (h2 : B ≠ R) (h3 : w.heap.size ≤ R) (c : RdAt A' R s q ∧ Ch (fun k => k = R) A A') : MS w A' B R M s q m := ⟨c.1, h.2.1.ch c.2 h1, h.2.2.1.ch c.2 h2, h.2.2.2.trans (c.2.below (fun x hx => by have h' : x = R := hx; omega) h.2.2.2.size)⟩
theorem mcN_step {s : ByteArray} {k i p : Nat} {m : Nat → Nat} (h : ¬ (s.size ≤ p ∨ 16 ≤ dgV (sB s p))) : mcN s (k + 1) i p m = mcN s k i (p + 1) (up1 m i ((16 * m i + dgV (sB s p)) % 256)) := by rw [mcN, if_neg h]
theorem mcN_no {s : ByteArray} {k i p : Nat} {m : Nat → Nat} (h : s.size ≤ p ∨ 16 ≤ dgV (sB s p)) : mcN s (k + 1) i p m = .inr (hrE s p) := by rw [mcN, if_pos h]
theorem hrE_at {s : ByteArray} {p : Nat} (h : p ≤ s.size) : hrE s p = ((hrE s p).1, p) := by unfold hrE; split <;> simp; omega
set_option maxHeartbeats 1600000 in
set_option maxRecDepth 100000 in
theorem parseMac_long (s : ByteArray) (w : World) (hs : 17 < s.size) : Calls Tryd.prog 21 #[.string s] w fun r w' => r = .returned (mcO (pMC s)) ∧ Below w.heap.size w w' := by
  have HP : Hid (pMC s = .inr (2, 17)) := by show _ = _; unfold pMC; rw [if_pos hs]
  have q0 : decide ((17 : Int) < (s.size : Int)) = true := decide_eq_true (by omega)
  have q1 : decide (17 < s.size) = true := decide_eq_true hs
  have q2 : (17 : Int) < (s.size : Int) := by omega
  have HN : Hid (MacAt (w.alloc (.cells (macC mz) 42)) w.heap.size mz ∧ Below w.heap.size w (w.alloc (.cells (macC mz) 42))) := ⟨mac_new w mz, (Below.refl _ _).alloc (Nat.le_refl _) _⟩
  clear hs
  go_enter Tryd.func21, Tryd.ntmps21
  go_wp2_with (refine wpList_store_mac (.tmp 2) (.tmp 11) rfl rfl w.heap.size mz mz rfl rfl HN.out.1 rfl ?_)
  intro wE hRE kE
  have HE : Hid (MacAt wE w.heap.size mz ∧ Below w.heap.size w wE) := ⟨hRE, HN.out.2.trans (kE.below (fun q h => by have h' : q = w.heap.size := h; omega) HN.out.2.size)⟩
  clear hRE kE
  go_wp2
  (try simp only [Exit.inBlock, Exit.then])
  refine bodyPost_ret (results_mac_tmp2 rfl _ _ w.heap.size mz rfl HE.out.1) rfl ?_
  exact ⟨by rw [HP.out]; rfl, HE.out.2⟩
theorem wlM_at (w : World) (s : ByteArray) : MS w (((w.alloc (.cells (macC mz) 42)).alloc (.cells (rdC s 0) 58)).alloc (.cells (macC mz) 42)) w.heap.size (w.heap.size + 1) (w.heap.size + 2) s 0 mz := by
  have a1 := mac_new w mz
  have b1 : Below w.heap.size w (w.alloc (.cells (macC mz) 42)) := (Below.refl _ _).alloc (Nat.le_refl _) _
  obtain ⟨w1, hw1⟩ : ∃ w1, w1 = w.alloc (.cells (macC mz) 42) := ⟨_, rfl⟩
  have z1 : w1.heap.size = w.heap.size + 1 := by rw [hw1, World.size_alloc]
  rw [← hw1] at a1 b1 ⊢
  have a2 : RdAt (w1.alloc (.cells (rdC s 0) 58)) w1.heap.size s 0 := heap_alloc_new _ _
  have b2 : Below w1.heap.size w1 (w1.alloc (.cells (rdC s 0) 58)) := (Below.refl _ _).alloc (Nat.le_refl _) _
  obtain ⟨w2, hw2⟩ : ∃ w2, w2 = w1.alloc (.cells (rdC s 0) 58) := ⟨_, rfl⟩
  have z2 : w2.heap.size = w.heap.size + 2 := by rw [hw2, World.size_alloc, z1]
  rw [← hw2] at a2 b2 ⊢
  have a3 := mac_new w2 mz
  have b3 : Below w2.heap.size w2 (w2.alloc (.cells (macC mz) 42)) := (Below.refl _ _).alloc (Nat.le_refl _) _
  rw [z1] at a2
  rw [z2] at a3
  exact ⟨a2.below b3, a3, (a1.below b2).below b3, (b1.trans (b2.mono (by omega))).trans (b3.mono (by omega))⟩
set_option maxHeartbeats 4000000 in
set_option maxRecDepth 100000 in
theorem parseMac_short (s : ByteArray) (w : World) (hs : s.size ≤ 17) : Calls Tryd.prog 21 #[.string s] w fun r w' => r = .returned (mcO (pMC s)) ∧ Below w.heap.size w w' := by
  have HS : Hid (s.size ≤ 17) := hs
  have HPM : Hid (pMC s = mcB s 6 0 0 mz) := by show _ = _; unfold pMC; rw [if_neg (by omega)]
  have q0 : decide ((17 : Int) < (s.size : Int)) = false := decide_eq_false (by omega)
  have q1 : decide (17 < s.size) = false := decide_eq_false (by omega)
  clear hs
  obtain ⟨W, hW⟩ : ∃ W_, W_ = (((w.alloc (.cells (macC mz) 42)).alloc (.cells (rdC s 0) 58)).alloc (.cells (macC mz) 42)) := ⟨_, rfl⟩
  obtain ⟨B, hB⟩ : ∃ B, B = w.heap.size := ⟨_, rfl⟩
  obtain ⟨R, hR⟩ : ∃ R, R = B + 1 := ⟨_, rfl⟩
  obtain ⟨M, hM⟩ : ∃ M, M = R + 1 := ⟨_, rfl⟩
  have H0 : Hid (MS w W B R M s 0 mz) := by rw [hW, hM, hR, hB]; exact wlM_at w s
  have HW : Hid ((((w.alloc (.cells #[.int .u8 0, .int .u8 0, .int .u8 0, .int .u8 0, .int .u8 0, .int .u8 0] 42)).alloc (.cells #[.string s, .int .i64 0] 58)).alloc (.cells #[.int .u8 0, .int .u8 0, .int .u8 0, .int .u8 0, .int .u8 0, .int .u8 0] 42)) = W) := hW.symm
  have HBW : Hid (w.heap.size = B) := hB.symm
  have HBR : Hid (B + 1 = R) := hR.symm
  have HRM : Hid (R + 1 = M) := hM.symm
  have HNE : Hid (M ≠ R ∧ B ≠ R ∧ B ≠ M ∧ w.heap.size ≤ B ∧ w.heap.size ≤ R) := ⟨by omega, by omega, by omega, by omega, by omega⟩
  clear hW hB hR hM
  go_enter Tryd.func21, Tryd.ntmps21
  go_upto_region 5 with fail
  rw [HBW.out, HW.out]
  rw [HBR.out]
  rw [HRM.out]
  go_wp2_with fail
  go_loopw [14] (fun iv wr => ∃ (i p : Nat) (m : Nat → Nat), i ≤ 6 ∧ iv = .int .i64 (i : Nat) ∧ Hid (mcB s (6 - i) i p m = mcB s 6 0 0 mz ∧ (∀ k, k < 6 → m k < 256) ∧ p ≤ s.size) ∧ Hid (MS w wr B R M s p m)) (fun iv _ => 6 - (intOf iv).toNat)
  case atStart => exact ⟨0, 0, mz, by omega, rfl, ⟨rfl, fun _ _ => by show 0 < 256; decide, Nat.zero_le _⟩, H0.out⟩
  case round =>
    obtain ⟨i, p, m, hi6, rfl, HIV, HMS⟩ := hrel
    have HI : Hid (i ≤ 6) := hi6
    clear hi6
    by_cases hi : i < 6
    · have i1 : decide ((i : Int) < 6) = true := decide_eq_true (by omega)
      have i2 : (i : Int) < 6 := by omega
      have i3 : IntKind.i64.wrap ((i : Int) + 1) = (i : Int) + 1 := i64_s _ (by omega) (by omega)
      have HI6 : Hid (i < 6) := hi
      obtain ⟨nn, hnn⟩ : ∃ nn, 6 - i = nn + 1 := ⟨5 - i, by omega⟩
      have HNN : Hid (6 - i = nn + 1) := hnn
      clear hi hnn
      by_cases h0 : 0 < i
      · have z1 : decide ((0 : Int) < (i : Int)) = true := decide_eq_true (by omega)
        have z2 : (0 : Int) < (i : Int) := by omega
        have HI0 : Hid (0 < i) := h0
        clear h0
        go_wp2_with fail
        obtain ⟨bC, hC⟩ : ∃ bC, (decide (p < s.size) && sB s p == 58) = bC := ⟨_, rfl⟩
        have HSK : Hid (stB s p ⟨#[58]⟩ = bC) := by show _ = _; rw [stB_one HIV.out.2.2]; exact hC
        have HC : Hid ((decide (p < s.size) && sB s p == 58) = bC) := hC
        clear hC
        refine (skip_any R s ⟨#[58]⟩ p wr HMS.out.1 HIV.out.2.2 (by have := HS.out; omega) (by decide)).mono ?_
        rintro e w3 ⟨rfl, hrd, hch⟩
        rw [HSK.out] at hrd ⊢
        cases bC with
        | false =>
          have H3 : Hid (MS w w3 B R M s p m) := HMS.out.rd HNE.out.1 HNE.out.2.1 HNE.out.2.2.2.2 ⟨hrd, hch⟩
          have HF : Hid (pMC s = .inr ((hrE s p).1, p)) := by
            have h1 := HIV.out.1
            have h2 := HC.out
            rw [HNN.out, mcB_no ⟨HI0.out, fun k => by simp at h2; exact h2 k.1 k.2⟩, hrE_at HIV.out.2.2] at h1
            exact HPM.out.trans h1.symm
          clear hrd hch
          go_upto_region 9 with fail
          refine MixH.start (fun A => MS w A B R M s (p) (m)) (by kernel_rfl) ?_
          obtain ⟨wA, hwA⟩ : ∃ W_, W_ = w3.drew := ⟨_, rfl⟩
          have bdr : Below w3.heap.size w3 wA := by rw [hwA]; exact (Below.refl _ _).drew
          have hS : MS w wA B R M s (p) (m) := H3.out.no (Ch.ofBelow bdr)
          rw [← hwA]
          clear hwA bdr
          refine MixH.takes [true, false, true] 5 (by kernel_rfl) (by kernel_rfl) (by decide) (by kernel_rfl) hS (fun K hK => ?_)
          simp only [Mix.pick]
          repeat (go_big_quiet_step (fail))
          refine wpQuiet_nil (hK _ ?_)
          clear hK K
          refine MixH.take 4 3 _ (.int .i64 (p : Nat)) rfl (by kernel_rfl) (by kernel_rfl) (by kernel_rfl) (by kernel_rfl) (yields_int (.tmp 25) rfl ⟨R, 1, none⟩ (.int .i64 (p : Nat)) rfl rfl (fun A hA => hA.1.c1)) hS (fun a' ha => ?_)
          simp only [Act.put, List.setIfInBounds_toArray, List.set_cons_succ, List.set_cons_zero] at ha
          subst ha
          refine MixH.one [false, true] 3 1 _ rfl rfl (by kernel_rfl) (by kernel_rfl) (fun K hK => ?_)
          simp only [Mix.pick]
          go_wp2_with fail
          refine Calls.mono (wrong_any R s (p) wA hS.1 HIV.out.2.2) ?_
          rintro e wR ⟨rfl, hn⟩
          replace hS : MS w wR B R M s (p) (m) := hS.no hn
          clear hn
          go_wp2_with fail
          refine ⟨rfl, hK _ _ hS ?_⟩
          clear hK K
          refine MixH.one [false, false, false, false, true] 2 4 _ rfl rfl (by kernel_rfl) (by kernel_rfl) (fun K hK => ?_)
          simp only [Mix.pick]
          go_wp2_with (refine wpList_store_mac (.tmp 2) (.tmp 23) rfl rfl B mz mz rfl rfl hS.2.2.1 rfl ?_)
          intro wE hRE kE
          replace hS : MS w wE B R M s (p) (m) := ⟨hS.1.ch kE (fun e => HNE.out.2.1 e.symm), hS.2.1.ch kE (fun e => HNE.out.2.2.1 e.symm), hRE, hS.2.2.2.trans (kE.below (fun q h => by have h' : q = B := h; have := HNE.out; omega) hS.2.2.2.size)⟩
          clear hRE kE
          go_wp2_with fail
          refine ⟨rfl, hK _ _ hS ?_⟩
          clear hK K
          refine MixH.takes [false, false, false, false, false, true, true] 0 (by kernel_rfl) (by kernel_rfl) (by decide) (by kernel_rfl) hS (fun K hK => ?_)
          simp only [Mix.pick]
          repeat (go_big_quiet_step (fail))
          refine wpQuiet_nil (hK _ ?_)
          clear hK K
          refine MixH.done (by kernel_rfl) ?_
          have HE : Hid (MS w wE B R M s (p) (m)) := hS
          clear hS
          go_wp2
          (try simp only [Exit.inBlock, Exit.then])
          refine bodyPost_ret (results_mac_tmp2 rfl _ _ B mz rfl HE.out.2.2.1) rfl ?_
          exact ⟨by rw [HF.out]; rfl, HE.out.2.2.2⟩
        | true =>
          have H3 : Hid (MS w w3 B R M s (p + 1) m) := HMS.out.rd HNE.out.1 HNE.out.2.1 HNE.out.2.2.2.2 ⟨hrd, hch⟩
          have HCC : Hid (p < s.size ∧ sB s p = 58) := by have h2 := HC.out; simp at h2; exact h2
          have HCOL : Hid (¬ (0 < i ∧ ¬ (p < s.size ∧ sB s p = 58))) := fun k => k.2 HCC.out
          have HP1 : Hid (p + 1 ≤ s.size ∧ (if 0 < i then p + 1 else p) = p + 1) := ⟨HCC.out.1, if_pos HI0.out⟩
          have HER : Hid (∀ e, mcN s 2 i (p + 1) m = .inr e → pMC s = .inr e) := fun e he => by
            have h1 := HIV.out.1
            rw [HNN.out, mcB_er HCOL.out (by rw [HP1.out.2]; exact he)] at h1
            rw [HPM.out, ← h1]
          clear hrd hch
          go_wp2_with fail
          go_loopw [27] (fun jv wr => ∃ (j p' : Nat) (m' : Nat → Nat), j ≤ 2 ∧ jv = .int .i64 (j : Nat) ∧ Hid (mcN s (2 - j) i p' m' = mcN s 2 i (p + 1) m ∧ (∀ k, k < 6 → m' k < 256) ∧ p' ≤ s.size) ∧ Hid (MS w wr B R M s p' m')) (fun jv _ => 2 - (intOf jv).toNat)
          case atStart => exact ⟨0, p + 1, m, by omega, rfl, ⟨rfl, HIV.out.2.1, HP1.out.1⟩, H3.out⟩
          case round =>
            obtain ⟨j, p', m', hj2, rfl, HJ, HM⟩ := hrel
            have HJ2 : Hid (j ≤ 2) := hj2
            clear hj2
            by_cases hj : j < 2
            · have j1 : decide ((j : Int) < 2) = true := decide_eq_true (by omega)
              have j2 : (j : Int) < 2 := by omega
              have j3 : IntKind.i64.wrap ((j : Int) + 1) = (j : Int) + 1 := i64_s _ (by omega) (by omega)
              obtain ⟨kk, hkk⟩ : ∃ kk, 2 - j = kk + 1 := ⟨1 - j, by omega⟩
              have HKK : Hid (2 - j = kk + 1 ∧ 2 - (j + 1) = kk ∧ j < 2) := ⟨hkk, by omega, hj⟩
              clear hj hkk
              go_wp2_with fail
              refine (ended_any R s p' wr HM.out.1).mono ?_
              rintro e w5 ⟨rfl, hn⟩
              have H5 : Hid (MS w w5 B R M s p' m') := HM.out.no hn
              clear hn
              by_cases hE : p' = s.size
              · have HBE : Hid ((p' == s.size) = true) := by show _ = _; simp [hE]
                have HF : Hid (pMC s = .inr ((hrE s p').1, p')) := by
                  have h1 := HJ.out.1
                  rw [HKK.out.1, mcN_no (.inl (by omega)), hrE_at HJ.out.2.2] at h1
                  exact HER.out _ h1.symm
                rw [HBE.out]
                clear hE
                go_upto_region 13 with fail
                refine MixH.start (fun A => MS w A B R M s (p') (m')) (by kernel_rfl) ?_
                obtain ⟨wA, hwA⟩ : ∃ W_, W_ = w5.drew := ⟨_, rfl⟩
                have bdr : Below w5.heap.size w5 wA := by rw [hwA]; exact (Below.refl _ _).drew
                have hS : MS w wA B R M s (p') (m') := H5.out.no (Ch.ofBelow bdr)
                rw [← hwA]
                clear hwA bdr
                refine MixH.takes [true, false, true] 5 (by kernel_rfl) (by kernel_rfl) (by decide) (by kernel_rfl) hS (fun K hK => ?_)
                simp only [Mix.pick]
                repeat (go_big_quiet_step (fail))
                refine wpQuiet_nil (hK _ ?_)
                clear hK K
                refine MixH.take 4 3 _ (.int .i64 (p' : Nat)) rfl (by kernel_rfl) (by kernel_rfl) (by kernel_rfl) (by kernel_rfl) (yields_int (.tmp 40) rfl ⟨R, 1, none⟩ (.int .i64 (p' : Nat)) rfl rfl (fun A hA => hA.1.c1)) hS (fun a' ha => ?_)
                simp only [Act.put, List.setIfInBounds_toArray, List.set_cons_succ, List.set_cons_zero] at ha
                subst ha
                refine MixH.one [false, true] 3 1 _ rfl rfl (by kernel_rfl) (by kernel_rfl) (fun K hK => ?_)
                simp only [Mix.pick]
                go_wp2_with fail
                refine Calls.mono (wrong_any R s (p') wA hS.1 HJ.out.2.2) ?_
                rintro e wR ⟨rfl, hn⟩
                replace hS : MS w wR B R M s (p') (m') := hS.no hn
                clear hn
                go_wp2_with fail
                refine ⟨rfl, hK _ _ hS ?_⟩
                clear hK K
                refine MixH.one [false, false, false, false, true] 2 4 _ rfl rfl (by kernel_rfl) (by kernel_rfl) (fun K hK => ?_)
                simp only [Mix.pick]
                go_wp2_with (refine wpList_store_mac (.tmp 2) (.tmp 38) rfl rfl B mz mz rfl rfl hS.2.2.1 rfl ?_)
                intro wE hRE kE
                replace hS : MS w wE B R M s (p') (m') := ⟨hS.1.ch kE (fun e => HNE.out.2.1 e.symm), hS.2.1.ch kE (fun e => HNE.out.2.2.1 e.symm), hRE, hS.2.2.2.trans (kE.below (fun q h => by have h' : q = B := h; have := HNE.out; omega) hS.2.2.2.size)⟩
                clear hRE kE
                go_wp2_with fail
                refine ⟨rfl, hK _ _ hS ?_⟩
                clear hK K
                refine MixH.takes [false, false, false, false, false, true, true] 0 (by kernel_rfl) (by kernel_rfl) (by decide) (by kernel_rfl) hS (fun K hK => ?_)
                simp only [Mix.pick]
                repeat (go_big_quiet_step (fail))
                refine wpQuiet_nil (hK _ ?_)
                clear hK K
                refine MixH.done (by kernel_rfl) ?_
                have HE : Hid (MS w wE B R M s (p') (m')) := hS
                clear hS
                go_wp2
                (try simp only [Exit.inBlock, Exit.then])
                refine bodyPost_ret (results_mac_tmp2 rfl _ _ B mz rfl HE.out.2.2.1) rfl ?_
                exact ⟨by rw [HF.out]; rfl, HE.out.2.2.2⟩
              · have HBE : Hid ((p' == s.size) = false ∧ p' < s.size) := ⟨by simp [hE], by have := HJ.out.2.2; omega⟩
                rw [HBE.out.1]
                obtain ⟨d, hd⟩ : ∃ d, dgV (sB s p') = d := ⟨_, rfl⟩
                have HDV : Hid (dgV (sB s p') = d ∧ d ≤ 16) := ⟨hd, by rw [← hd]; exact dgV_le _⟩
                clear hE hd
                have c5 := H5.out.1.c1
                have b5 : (p' : Int) < (s.size : Int) := by have := HBE.out.2; omega
                have b6 : (0 : Int) ≤ (p' : Int) := by omega
                go_wp2_with (refine wpList_sB (.tmp 31) (.tmp 33) rfl s p' _ rfl rfl rfl HBE.out.2 rfl ?_)
                refine (digit_any' (sB s p') w5 (sB_lt s p')).mono ?_
                rintro e wz ⟨rfl, rfl⟩
                rw [HDV.out.1]
                clear c5 b5 b6
                by_cases hd : 16 ≤ d
                · have d1 : decide ((16 : Int) ≤ (d : Int)) = true := decide_eq_true (by omega)
                  have d2 : (16 : Int) ≤ (d : Int) := by omega
                  have HF : Hid (pMC s = .inr ((hrE s p').1, p')) := by
                    have h1 := HJ.out.1
                    rw [HKK.out.1, mcN_no (.inr (by rw [HDV.out.1]; exact hd)), hrE_at HJ.out.2.2] at h1
                    exact HER.out _ h1.symm
                  clear hd
                  go_upto_region 13 with fail
                  refine MixH.start (fun A => MS w A B R M s (p') (m')) (by kernel_rfl) ?_
                  obtain ⟨wA, hwA⟩ : ∃ W_, W_ = w5.drew := ⟨_, rfl⟩
                  have bdr : Below w5.heap.size w5 wA := by rw [hwA]; exact (Below.refl _ _).drew
                  have hS : MS w wA B R M s (p') (m') := H5.out.no (Ch.ofBelow bdr)
                  rw [← hwA]
                  clear hwA bdr
                  refine MixH.takes [true, false, true] 5 (by kernel_rfl) (by kernel_rfl) (by decide) (by kernel_rfl) hS (fun K hK => ?_)
                  simp only [Mix.pick]
                  repeat (go_big_quiet_step (fail))
                  refine wpQuiet_nil (hK _ ?_)
                  clear hK K
                  refine MixH.take 4 3 _ (.int .i64 (p' : Nat)) rfl (by kernel_rfl) (by kernel_rfl) (by kernel_rfl) (by kernel_rfl) (yields_int (.tmp 40) rfl ⟨R, 1, none⟩ (.int .i64 (p' : Nat)) rfl rfl (fun A hA => hA.1.c1)) hS (fun a' ha => ?_)
                  simp only [Act.put, List.setIfInBounds_toArray, List.set_cons_succ, List.set_cons_zero] at ha
                  subst ha
                  refine MixH.one [false, true] 3 1 _ rfl rfl (by kernel_rfl) (by kernel_rfl) (fun K hK => ?_)
                  simp only [Mix.pick]
                  go_wp2_with fail
                  refine Calls.mono (wrong_any R s (p') wA hS.1 HJ.out.2.2) ?_
                  rintro e wR ⟨rfl, hn⟩
                  replace hS : MS w wR B R M s (p') (m') := hS.no hn
                  clear hn
                  go_wp2_with fail
                  refine ⟨rfl, hK _ _ hS ?_⟩
                  clear hK K
                  refine MixH.one [false, false, false, false, true] 2 4 _ rfl rfl (by kernel_rfl) (by kernel_rfl) (fun K hK => ?_)
                  simp only [Mix.pick]
                  go_wp2_with (refine wpList_store_mac (.tmp 2) (.tmp 38) rfl rfl B mz mz rfl rfl hS.2.2.1 rfl ?_)
                  intro wE hRE kE
                  replace hS : MS w wE B R M s (p') (m') := ⟨hS.1.ch kE (fun e => HNE.out.2.1 e.symm), hS.2.1.ch kE (fun e => HNE.out.2.2.1 e.symm), hRE, hS.2.2.2.trans (kE.below (fun q h => by have h' : q = B := h; have := HNE.out; omega) hS.2.2.2.size)⟩
                  clear hRE kE
                  go_wp2_with fail
                  refine ⟨rfl, hK _ _ hS ?_⟩
                  clear hK K
                  refine MixH.takes [false, false, false, false, false, true, true] 0 (by kernel_rfl) (by kernel_rfl) (by decide) (by kernel_rfl) hS (fun K hK => ?_)
                  simp only [Mix.pick]
                  repeat (go_big_quiet_step (fail))
                  refine wpQuiet_nil (hK _ ?_)
                  clear hK K
                  refine MixH.done (by kernel_rfl) ?_
                  have HE : Hid (MS w wE B R M s (p') (m')) := hS
                  clear hS
                  go_wp2
                  (try simp only [Exit.inBlock, Exit.then])
                  refine bodyPost_ret (results_mac_tmp2 rfl _ _ B mz rfl HE.out.2.2.1) rfl ?_
                  exact ⟨by rw [HF.out]; rfl, HE.out.2.2.2⟩
                · have d1 : decide ((16 : Int) ≤ (d : Int)) = false := decide_eq_false (by omega)
                  have d2 : ¬ (16 : Int) ≤ (d : Int) := by omega
                  obtain ⟨v, hv⟩ : ∃ v, (16 * m' i + d) % 256 = v := ⟨_, rfl⟩
                  have HV : Hid ((16 * m' i + d) % 256 = v ∧ v < 256 ∧ d < 16 ∧ m' i < 256) := ⟨hv, by rw [← hv]; exact Nat.mod_lt _ (by omega), by omega, HJ.out.2.1 i HI6.out⟩
                  have HN : Hid (mcN s kk i (p' + 1) (up1 m' i v) = mcN s 2 i (p + 1) m) := by
                    have h1 := HJ.out.1
                    rw [HKK.out.1, mcN_step (by rw [HDV.out.1]; have := HBE.out.2; omega), HDV.out.1, hv] at h1
                    exact h1
                  have y1 : (i : Int) < 6 := by have := HI6.out; omega
                  have y2 : (0 : Int) ≤ (i : Int) := by omega
                  have y3 : i < 6 := HI6.out
                  clear hd hv
                  go_upto_region 14 with fail
                  refine MixJ.start (fun A => MS w A B R M s (p') (m')) 13 (by kernel_rfl) ?_
                  obtain ⟨wA, hwA⟩ : ∃ W_, W_ = w5.drew := ⟨_, rfl⟩
                  have bdr : Below w5.heap.size w5 wA := by rw [hwA]; exact (Below.refl _ _).drew
                  have hS : MS w wA B R M s p' m' := H5.out.no (Ch.ofBelow bdr)
                  rw [← hwA]
                  clear hwA bdr
                  refine MixJ.takes [true, true, true, false, false, true, true] 9 (by kernel_rfl) (by kernel_rfl) (by decide) (by kernel_rfl) (by kernel_rfl) hS (fun K hK => ?_)
                  simp only [Mix.pick]
                  repeat (go_big_quiet_step (fail))
                  refine wpQuiet_nil (hK _ ?_)
                  clear hK K
                  refine MixJ.take 8 3 _ (.int .u8 (m' i : Nat)) rfl (by kernel_rfl) (by kernel_rfl) (by kernel_rfl) (by kernel_rfl) (by kernel_rfl) (by kernel_rfl) (yields_by4 (.tmp 44) rfl ⟨M, i, none⟩ (.int .u8 (m' i : Nat)) rfl rfl (fun A hA => by have := hA.2.1.cell i; rw [macC_at m' i HI6.out] at this; exact this)) hS (fun a' ha => ?_)
                  simp only [Act.put, List.setIfInBounds_toArray, List.set_cons_succ, List.set_cons_zero] at ha
                  subst ha
                  refine MixJ.takes [false, false, false, false, true] 7 (by kernel_rfl) (by kernel_rfl) (by decide) (by kernel_rfl) (by kernel_rfl) hS (fun K hK => ?_)
                  simp only [Mix.pick]
                  repeat (go_big_quiet_step (fail))
                  refine wpQuiet_nil (hK _ ?_)
                  clear hK K
                  refine MixJ.take 6 7 _ (.int .i64 (p' : Nat)) rfl (by kernel_rfl) (by kernel_rfl) (by kernel_rfl) (by kernel_rfl) (by kernel_rfl) (by kernel_rfl) (yields_int (.tmp 48) rfl ⟨R, 1, none⟩ (.int .i64 (p' : Nat)) rfl rfl (fun A hA => hA.1.c1)) hS (fun a' ha => ?_)
                  simp only [Act.put, List.setIfInBounds_toArray, List.set_cons_succ, List.set_cons_zero] at ha
                  subst ha
                  refine MixJ.take 5 8 _ (.int .u8 (sB s p' : Nat)) rfl (by kernel_rfl) (by kernel_rfl) (by kernel_rfl) (by kernel_rfl) (by kernel_rfl) (by kernel_rfl) (yields_sBu (.tmp 47) (.tmp 49) rfl .i64 s p' _ rfl rfl rfl HBE.out.2 rfl) hS (fun a' ha => ?_)
                  simp only [Act.put, List.setIfInBounds_toArray, List.set_cons_succ, List.set_cons_zero] at ha
                  subst ha
                  refine MixJ.many [9] 4 (by kernel_rfl) (by decide) (by kernel_rfl) ?_
                  intro i_ hi_
                  simp only [List.mem_cons, List.not_mem_nil, or_false] at hi_
                  subst hi_
                  refine ⟨_, rfl, fun K hK => ?_⟩
                  go_wp2_with fail
                  refine Calls.mono (digit_any' (sB s p') wA (sB_lt s p')) ?_
                  rintro e wz ⟨rfl, rfl⟩
                  rw [HDV.out.1]
                  go_wp2_with fail
                  refine ⟨rfl, hK _ _ (fun _ => hS) ?_⟩
                  clear hK K
                  refine MixJ.takes [false, false, false, false, false, false, false, false, false, false, true, true, true] 1 (by kernel_rfl) (by kernel_rfl) (by decide) (by kernel_rfl) (by kernel_rfl) hS (fun K hK => ?_)
                  simp only [Mix.pick]
                  repeat (go_big_quiet_step (fail))
                  refine wpQuiet_nil (hK _ ?_)
                  clear hK K
                  refine MixJ.many [13] 0 (by kernel_rfl) (by decide) (by kernel_rfl) ?_
                  intro i_ hi_
                  simp only [List.mem_cons, List.not_mem_nil, or_false] at hi_
                  subst hi_
                  refine ⟨_, rfl, fun K hK => ?_⟩
                  have kc : wA.cell? ⟨M, i, none⟩ = some (.int .u8 (m' i : Nat)) := by have := hS.2.1.cell i; rw [macC_at m' i HI6.out] at this; exact this
                  have kf : wA.frozen? ⟨M, i, none⟩ = false := hS.2.1.fz i
                  go_wp2_with fail
                  obtain ⟨wD, hwD⟩ : ∃ W_, W_ = wA.setCell ⟨M, i, none⟩ (.int .u8 (bits BinOp.or IntKind.u8 ((m' i : Int) * 16 % 256) (d : Int))) := ⟨_, rfl⟩
                  have HD9 : Hid (MS w wD B R M s p' (up1 m' i v)) := by
                    have e : bits BinOp.or IntKind.u8 ((m' i : Int) * 16 % 256) (d : Int) = ((v : Nat) : Int) := by rw [or_nib (m' i) d HV.out.2.2.1, HV.out.1]
                    rw [hwD, e]
                    have c : Ch (fun k => k = M) wA (wA.setCell ⟨M, i, none⟩ (.int .u8 (v : Nat))) := (Ch.refl (fun k => k = M) wA).set ⟨M, i, none⟩ _ rfl
                    exact ⟨hS.1.ch c (fun e => HNE.out.1 e.symm), hS.2.1.set i v HI6.out, hS.2.2.1.ch c HNE.out.2.2.1, hS.2.2.2.trans (c.below (fun x hx => by have h' : x = M := hx; have h1 := HNE.out; have h2 := HRM.out; omega) hS.2.2.2.size)⟩
                  rw [← hwD]
                  clear hwD kc kf
                  refine ⟨rfl, hK _ _ (fun q => absurd rfl q) ?_⟩
                  clear hK K
                  refine MixJ.done (by kernel_rfl) ?_
                  clear hS
                  have c9 := HD9.out.1.c1
                  have f9 := HD9.out.1.fz 1
                  have x9 : IntKind.i64.wrap ((p' : Int) + 1) = (p' : Int) + 1 := i64_s _ (by omega) (by have h1 := HBE.out.2; have h2 := HS.out; omega)
                  obtain ⟨wF, hwF⟩ : ∃ wF, wF = wD.setCell ⟨R, 1, none⟩ (.int .i64 ((p' : Int) + 1)) := ⟨_, rfl⟩
                  have HWF : Hid (wD.setCell ⟨R, 1, none⟩ (.int .i64 ((p' : Int) + 1)) = wF) := hwF.symm
                  have HMF : Hid (MS w wF B R M s (p' + 1) (up1 m' i v)) := HD9.out.rd HNE.out.1 HNE.out.2.1 HNE.out.2.2.2.2 ⟨by rw [hwF]; exact HD9.out.1.set (p' + 1), by rw [hwF]; exact (Ch.refl (fun k => k = R) wD).set ⟨R, 1, none⟩ _ rfl⟩
                  clear hwF
                  go_wp2
                  go_roundw
                  case rel => exact ⟨j + 1, p' + 1, up1 m' i v, by have := HKK.out.2.2; omega, by simp, ⟨by rw [HKK.out.2.1]; exact HN.out, fun k hk => by unfold up1; split; exact HV.out.2.1; exact HJ.out.2.1 k hk, HBE.out.2⟩, by rw [HWF.out]; exact HMF.out⟩
                  case measure => have := HKK.out.2.2; simp [intOf]; omega
            · obtain rfl : j = 2 := by have := HJ2.out; omega
              clear hj
              have HN2 : Hid (mcB s (nn + 1) i p m = mcB s nn (i + 1) p' m') := mcB_go HCOL.out (by rw [HP1.out.2]; exact HJ.out.1.symm)
              go_wp2
              go_roundw
              case rel => exact ⟨i + 1, p', m', by have := HI6.out; omega, by simp, ⟨by rw [show 6 - (i + 1) = nn by have := HNN.out; omega, ← HN2.out, ← HNN.out]; exact HIV.out.1, HJ.out.2.1, HJ.out.2.2⟩, HM.out⟩
              case measure => have := HI6.out; simp [intOf]; omega
      · have z1 : decide ((0 : Int) < (i : Int)) = false := decide_eq_false (by omega)
        have z2 : ¬ (0 : Int) < (i : Int) := by omega
        have HI0 : Hid (¬ 0 < i) := h0
        clear h0
        have HCOL : Hid (¬ (0 < i ∧ ¬ (p < s.size ∧ sB s p = 58))) := fun k => HI0.out k.1
        have HP1 : Hid (p ≤ s.size ∧ (if 0 < i then p + 1 else p) = p) := ⟨HIV.out.2.2, if_neg HI0.out⟩
        have HER : Hid (∀ e, mcN s 2 i p m = .inr e → pMC s = .inr e) := fun e he => by
          have h1 := HIV.out.1
          rw [HNN.out, mcB_er HCOL.out (by rw [HP1.out.2]; exact he)] at h1
          rw [HPM.out, ← h1]
        go_wp2_with fail
        go_loopw [27] (fun jv wr => ∃ (j p' : Nat) (m' : Nat → Nat), j ≤ 2 ∧ jv = .int .i64 (j : Nat) ∧ Hid (mcN s (2 - j) i p' m' = mcN s 2 i (p) m ∧ (∀ k, k < 6 → m' k < 256) ∧ p' ≤ s.size) ∧ Hid (MS w wr B R M s p' m')) (fun jv _ => 2 - (intOf jv).toNat)
        case atStart => exact ⟨0, p, m, by omega, rfl, ⟨rfl, HIV.out.2.1, HP1.out.1⟩, HMS.out⟩
        case round =>
          obtain ⟨j, p', m', hj2, rfl, HJ, HM⟩ := hrel
          have HJ2 : Hid (j ≤ 2) := hj2
          clear hj2
          by_cases hj : j < 2
          · have j1 : decide ((j : Int) < 2) = true := decide_eq_true (by omega)
            have j2 : (j : Int) < 2 := by omega
            have j3 : IntKind.i64.wrap ((j : Int) + 1) = (j : Int) + 1 := i64_s _ (by omega) (by omega)
            obtain ⟨kk, hkk⟩ : ∃ kk, 2 - j = kk + 1 := ⟨1 - j, by omega⟩
            have HKK : Hid (2 - j = kk + 1 ∧ 2 - (j + 1) = kk ∧ j < 2) := ⟨hkk, by omega, hj⟩
            clear hj hkk
            go_wp2_with fail
            refine (ended_any R s p' wr HM.out.1).mono ?_
            rintro e w5 ⟨rfl, hn⟩
            have H5 : Hid (MS w w5 B R M s p' m') := HM.out.no hn
            clear hn
            by_cases hE : p' = s.size
            · have HBE : Hid ((p' == s.size) = true) := by show _ = _; simp [hE]
              have HF : Hid (pMC s = .inr ((hrE s p').1, p')) := by
                have h1 := HJ.out.1
                rw [HKK.out.1, mcN_no (.inl (by omega)), hrE_at HJ.out.2.2] at h1
                exact HER.out _ h1.symm
              rw [HBE.out]
              clear hE
              go_upto_region 13 with fail
              refine MixH.start (fun A => MS w A B R M s (p') (m')) (by kernel_rfl) ?_
              obtain ⟨wA, hwA⟩ : ∃ W_, W_ = w5.drew := ⟨_, rfl⟩
              have bdr : Below w5.heap.size w5 wA := by rw [hwA]; exact (Below.refl _ _).drew
              have hS : MS w wA B R M s (p') (m') := H5.out.no (Ch.ofBelow bdr)
              rw [← hwA]
              clear hwA bdr
              refine MixH.takes [true, false, true] 5 (by kernel_rfl) (by kernel_rfl) (by decide) (by kernel_rfl) hS (fun K hK => ?_)
              simp only [Mix.pick]
              repeat (go_big_quiet_step (fail))
              refine wpQuiet_nil (hK _ ?_)
              clear hK K
              refine MixH.take 4 3 _ (.int .i64 (p' : Nat)) rfl (by kernel_rfl) (by kernel_rfl) (by kernel_rfl) (by kernel_rfl) (yields_int (.tmp 40) rfl ⟨R, 1, none⟩ (.int .i64 (p' : Nat)) rfl rfl (fun A hA => hA.1.c1)) hS (fun a' ha => ?_)
              simp only [Act.put, List.setIfInBounds_toArray, List.set_cons_succ, List.set_cons_zero] at ha
              subst ha
              refine MixH.one [false, true] 3 1 _ rfl rfl (by kernel_rfl) (by kernel_rfl) (fun K hK => ?_)
              simp only [Mix.pick]
              go_wp2_with fail
              refine Calls.mono (wrong_any R s (p') wA hS.1 HJ.out.2.2) ?_
              rintro e wR ⟨rfl, hn⟩
              replace hS : MS w wR B R M s (p') (m') := hS.no hn
              clear hn
              go_wp2_with fail
              refine ⟨rfl, hK _ _ hS ?_⟩
              clear hK K
              refine MixH.one [false, false, false, false, true] 2 4 _ rfl rfl (by kernel_rfl) (by kernel_rfl) (fun K hK => ?_)
              simp only [Mix.pick]
              go_wp2_with (refine wpList_store_mac (.tmp 2) (.tmp 38) rfl rfl B mz mz rfl rfl hS.2.2.1 rfl ?_)
              intro wE hRE kE
              replace hS : MS w wE B R M s (p') (m') := ⟨hS.1.ch kE (fun e => HNE.out.2.1 e.symm), hS.2.1.ch kE (fun e => HNE.out.2.2.1 e.symm), hRE, hS.2.2.2.trans (kE.below (fun q h => by have h' : q = B := h; have := HNE.out; omega) hS.2.2.2.size)⟩
              clear hRE kE
              go_wp2_with fail
              refine ⟨rfl, hK _ _ hS ?_⟩
              clear hK K
              refine MixH.takes [false, false, false, false, false, true, true] 0 (by kernel_rfl) (by kernel_rfl) (by decide) (by kernel_rfl) hS (fun K hK => ?_)
              simp only [Mix.pick]
              repeat (go_big_quiet_step (fail))
              refine wpQuiet_nil (hK _ ?_)
              clear hK K
              refine MixH.done (by kernel_rfl) ?_
              have HE : Hid (MS w wE B R M s (p') (m')) := hS
              clear hS
              go_wp2
              (try simp only [Exit.inBlock, Exit.then])
              refine bodyPost_ret (results_mac_tmp2 rfl _ _ B mz rfl HE.out.2.2.1) rfl ?_
              exact ⟨by rw [HF.out]; rfl, HE.out.2.2.2⟩
            · have HBE : Hid ((p' == s.size) = false ∧ p' < s.size) := ⟨by simp [hE], by have := HJ.out.2.2; omega⟩
              rw [HBE.out.1]
              obtain ⟨d, hd⟩ : ∃ d, dgV (sB s p') = d := ⟨_, rfl⟩
              have HDV : Hid (dgV (sB s p') = d ∧ d ≤ 16) := ⟨hd, by rw [← hd]; exact dgV_le _⟩
              clear hE hd
              have c5 := H5.out.1.c1
              have b5 : (p' : Int) < (s.size : Int) := by have := HBE.out.2; omega
              have b6 : (0 : Int) ≤ (p' : Int) := by omega
              go_wp2_with (refine wpList_sB (.tmp 31) (.tmp 33) rfl s p' _ rfl rfl rfl HBE.out.2 rfl ?_)
              refine (digit_any' (sB s p') w5 (sB_lt s p')).mono ?_
              rintro e wz ⟨rfl, rfl⟩
              rw [HDV.out.1]
              clear c5 b5 b6
              by_cases hd : 16 ≤ d
              · have d1 : decide ((16 : Int) ≤ (d : Int)) = true := decide_eq_true (by omega)
                have d2 : (16 : Int) ≤ (d : Int) := by omega
                have HF : Hid (pMC s = .inr ((hrE s p').1, p')) := by
                  have h1 := HJ.out.1
                  rw [HKK.out.1, mcN_no (.inr (by rw [HDV.out.1]; exact hd)), hrE_at HJ.out.2.2] at h1
                  exact HER.out _ h1.symm
                clear hd
                go_upto_region 13 with fail
                refine MixH.start (fun A => MS w A B R M s (p') (m')) (by kernel_rfl) ?_
                obtain ⟨wA, hwA⟩ : ∃ W_, W_ = w5.drew := ⟨_, rfl⟩
                have bdr : Below w5.heap.size w5 wA := by rw [hwA]; exact (Below.refl _ _).drew
                have hS : MS w wA B R M s (p') (m') := H5.out.no (Ch.ofBelow bdr)
                rw [← hwA]
                clear hwA bdr
                refine MixH.takes [true, false, true] 5 (by kernel_rfl) (by kernel_rfl) (by decide) (by kernel_rfl) hS (fun K hK => ?_)
                simp only [Mix.pick]
                repeat (go_big_quiet_step (fail))
                refine wpQuiet_nil (hK _ ?_)
                clear hK K
                refine MixH.take 4 3 _ (.int .i64 (p' : Nat)) rfl (by kernel_rfl) (by kernel_rfl) (by kernel_rfl) (by kernel_rfl) (yields_int (.tmp 40) rfl ⟨R, 1, none⟩ (.int .i64 (p' : Nat)) rfl rfl (fun A hA => hA.1.c1)) hS (fun a' ha => ?_)
                simp only [Act.put, List.setIfInBounds_toArray, List.set_cons_succ, List.set_cons_zero] at ha
                subst ha
                refine MixH.one [false, true] 3 1 _ rfl rfl (by kernel_rfl) (by kernel_rfl) (fun K hK => ?_)
                simp only [Mix.pick]
                go_wp2_with fail
                refine Calls.mono (wrong_any R s (p') wA hS.1 HJ.out.2.2) ?_
                rintro e wR ⟨rfl, hn⟩
                replace hS : MS w wR B R M s (p') (m') := hS.no hn
                clear hn
                go_wp2_with fail
                refine ⟨rfl, hK _ _ hS ?_⟩
                clear hK K
                refine MixH.one [false, false, false, false, true] 2 4 _ rfl rfl (by kernel_rfl) (by kernel_rfl) (fun K hK => ?_)
                simp only [Mix.pick]
                go_wp2_with (refine wpList_store_mac (.tmp 2) (.tmp 38) rfl rfl B mz mz rfl rfl hS.2.2.1 rfl ?_)
                intro wE hRE kE
                replace hS : MS w wE B R M s (p') (m') := ⟨hS.1.ch kE (fun e => HNE.out.2.1 e.symm), hS.2.1.ch kE (fun e => HNE.out.2.2.1 e.symm), hRE, hS.2.2.2.trans (kE.below (fun q h => by have h' : q = B := h; have := HNE.out; omega) hS.2.2.2.size)⟩
                clear hRE kE
                go_wp2_with fail
                refine ⟨rfl, hK _ _ hS ?_⟩
                clear hK K
                refine MixH.takes [false, false, false, false, false, true, true] 0 (by kernel_rfl) (by kernel_rfl) (by decide) (by kernel_rfl) hS (fun K hK => ?_)
                simp only [Mix.pick]
                repeat (go_big_quiet_step (fail))
                refine wpQuiet_nil (hK _ ?_)
                clear hK K
                refine MixH.done (by kernel_rfl) ?_
                have HE : Hid (MS w wE B R M s (p') (m')) := hS
                clear hS
                go_wp2
                (try simp only [Exit.inBlock, Exit.then])
                refine bodyPost_ret (results_mac_tmp2 rfl _ _ B mz rfl HE.out.2.2.1) rfl ?_
                exact ⟨by rw [HF.out]; rfl, HE.out.2.2.2⟩
              · have d1 : decide ((16 : Int) ≤ (d : Int)) = false := decide_eq_false (by omega)
                have d2 : ¬ (16 : Int) ≤ (d : Int) := by omega
                obtain ⟨v, hv⟩ : ∃ v, (16 * m' i + d) % 256 = v := ⟨_, rfl⟩
                have HV : Hid ((16 * m' i + d) % 256 = v ∧ v < 256 ∧ d < 16 ∧ m' i < 256) := ⟨hv, by rw [← hv]; exact Nat.mod_lt _ (by omega), by omega, HJ.out.2.1 i HI6.out⟩
                have HN : Hid (mcN s kk i (p' + 1) (up1 m' i v) = mcN s 2 i (p) m) := by
                  have h1 := HJ.out.1
                  rw [HKK.out.1, mcN_step (by rw [HDV.out.1]; have := HBE.out.2; omega), HDV.out.1, hv] at h1
                  exact h1
                have y1 : (i : Int) < 6 := by have := HI6.out; omega
                have y2 : (0 : Int) ≤ (i : Int) := by omega
                have y3 : i < 6 := HI6.out
                clear hd hv
                go_upto_region 14 with fail
                refine MixJ.start (fun A => MS w A B R M s (p') (m')) 13 (by kernel_rfl) ?_
                obtain ⟨wA, hwA⟩ : ∃ W_, W_ = w5.drew := ⟨_, rfl⟩
                have bdr : Below w5.heap.size w5 wA := by rw [hwA]; exact (Below.refl _ _).drew
                have hS : MS w wA B R M s p' m' := H5.out.no (Ch.ofBelow bdr)
                rw [← hwA]
                clear hwA bdr
                refine MixJ.takes [true, true, true, false, false, true, true] 9 (by kernel_rfl) (by kernel_rfl) (by decide) (by kernel_rfl) (by kernel_rfl) hS (fun K hK => ?_)
                simp only [Mix.pick]
                repeat (go_big_quiet_step (fail))
                refine wpQuiet_nil (hK _ ?_)
                clear hK K
                refine MixJ.take 8 3 _ (.int .u8 (m' i : Nat)) rfl (by kernel_rfl) (by kernel_rfl) (by kernel_rfl) (by kernel_rfl) (by kernel_rfl) (by kernel_rfl) (yields_by4 (.tmp 44) rfl ⟨M, i, none⟩ (.int .u8 (m' i : Nat)) rfl rfl (fun A hA => by have := hA.2.1.cell i; rw [macC_at m' i HI6.out] at this; exact this)) hS (fun a' ha => ?_)
                simp only [Act.put, List.setIfInBounds_toArray, List.set_cons_succ, List.set_cons_zero] at ha
                subst ha
                refine MixJ.takes [false, false, false, false, true] 7 (by kernel_rfl) (by kernel_rfl) (by decide) (by kernel_rfl) (by kernel_rfl) hS (fun K hK => ?_)
                simp only [Mix.pick]
                repeat (go_big_quiet_step (fail))
                refine wpQuiet_nil (hK _ ?_)
                clear hK K
                refine MixJ.take 6 7 _ (.int .i64 (p' : Nat)) rfl (by kernel_rfl) (by kernel_rfl) (by kernel_rfl) (by kernel_rfl) (by kernel_rfl) (by kernel_rfl) (yields_int (.tmp 48) rfl ⟨R, 1, none⟩ (.int .i64 (p' : Nat)) rfl rfl (fun A hA => hA.1.c1)) hS (fun a' ha => ?_)
                simp only [Act.put, List.setIfInBounds_toArray, List.set_cons_succ, List.set_cons_zero] at ha
                subst ha
                refine MixJ.take 5 8 _ (.int .u8 (sB s p' : Nat)) rfl (by kernel_rfl) (by kernel_rfl) (by kernel_rfl) (by kernel_rfl) (by kernel_rfl) (by kernel_rfl) (yields_sBu (.tmp 47) (.tmp 49) rfl .i64 s p' _ rfl rfl rfl HBE.out.2 rfl) hS (fun a' ha => ?_)
                simp only [Act.put, List.setIfInBounds_toArray, List.set_cons_succ, List.set_cons_zero] at ha
                subst ha
                refine MixJ.many [9] 4 (by kernel_rfl) (by decide) (by kernel_rfl) ?_
                intro i_ hi_
                simp only [List.mem_cons, List.not_mem_nil, or_false] at hi_
                subst hi_
                refine ⟨_, rfl, fun K hK => ?_⟩
                go_wp2_with fail
                refine Calls.mono (digit_any' (sB s p') wA (sB_lt s p')) ?_
                rintro e wz ⟨rfl, rfl⟩
                rw [HDV.out.1]
                go_wp2_with fail
                refine ⟨rfl, hK _ _ (fun _ => hS) ?_⟩
                clear hK K
                refine MixJ.takes [false, false, false, false, false, false, false, false, false, false, true, true, true] 1 (by kernel_rfl) (by kernel_rfl) (by decide) (by kernel_rfl) (by kernel_rfl) hS (fun K hK => ?_)
                simp only [Mix.pick]
                repeat (go_big_quiet_step (fail))
                refine wpQuiet_nil (hK _ ?_)
                clear hK K
                refine MixJ.many [13] 0 (by kernel_rfl) (by decide) (by kernel_rfl) ?_
                intro i_ hi_
                simp only [List.mem_cons, List.not_mem_nil, or_false] at hi_
                subst hi_
                refine ⟨_, rfl, fun K hK => ?_⟩
                have kc : wA.cell? ⟨M, i, none⟩ = some (.int .u8 (m' i : Nat)) := by have := hS.2.1.cell i; rw [macC_at m' i HI6.out] at this; exact this
                have kf : wA.frozen? ⟨M, i, none⟩ = false := hS.2.1.fz i
                go_wp2_with fail
                obtain ⟨wD, hwD⟩ : ∃ W_, W_ = wA.setCell ⟨M, i, none⟩ (.int .u8 (bits BinOp.or IntKind.u8 ((m' i : Int) * 16 % 256) (d : Int))) := ⟨_, rfl⟩
                have HD9 : Hid (MS w wD B R M s p' (up1 m' i v)) := by
                  have e : bits BinOp.or IntKind.u8 ((m' i : Int) * 16 % 256) (d : Int) = ((v : Nat) : Int) := by rw [or_nib (m' i) d HV.out.2.2.1, HV.out.1]
                  rw [hwD, e]
                  have c : Ch (fun k => k = M) wA (wA.setCell ⟨M, i, none⟩ (.int .u8 (v : Nat))) := (Ch.refl (fun k => k = M) wA).set ⟨M, i, none⟩ _ rfl
                  exact ⟨hS.1.ch c (fun e => HNE.out.1 e.symm), hS.2.1.set i v HI6.out, hS.2.2.1.ch c HNE.out.2.2.1, hS.2.2.2.trans (c.below (fun x hx => by have h' : x = M := hx; have h1 := HNE.out; have h2 := HRM.out; omega) hS.2.2.2.size)⟩
                rw [← hwD]
                clear hwD kc kf
                refine ⟨rfl, hK _ _ (fun q => absurd rfl q) ?_⟩
                clear hK K
                refine MixJ.done (by kernel_rfl) ?_
                clear hS
                have c9 := HD9.out.1.c1
                have f9 := HD9.out.1.fz 1
                have x9 : IntKind.i64.wrap ((p' : Int) + 1) = (p' : Int) + 1 := i64_s _ (by omega) (by have h1 := HBE.out.2; have h2 := HS.out; omega)
                obtain ⟨wF, hwF⟩ : ∃ wF, wF = wD.setCell ⟨R, 1, none⟩ (.int .i64 ((p' : Int) + 1)) := ⟨_, rfl⟩
                have HWF : Hid (wD.setCell ⟨R, 1, none⟩ (.int .i64 ((p' : Int) + 1)) = wF) := hwF.symm
                have HMF : Hid (MS w wF B R M s (p' + 1) (up1 m' i v)) := HD9.out.rd HNE.out.1 HNE.out.2.1 HNE.out.2.2.2.2 ⟨by rw [hwF]; exact HD9.out.1.set (p' + 1), by rw [hwF]; exact (Ch.refl (fun k => k = R) wD).set ⟨R, 1, none⟩ _ rfl⟩
                clear hwF
                go_wp2
                go_roundw
                case rel => exact ⟨j + 1, p' + 1, up1 m' i v, by have := HKK.out.2.2; omega, by simp, ⟨by rw [HKK.out.2.1]; exact HN.out, fun k hk => by unfold up1; split; exact HV.out.2.1; exact HJ.out.2.1 k hk, HBE.out.2⟩, by rw [HWF.out]; exact HMF.out⟩
                case measure => have := HKK.out.2.2; simp [intOf]; omega
          · obtain rfl : j = 2 := by have := HJ2.out; omega
            clear hj
            have HN2 : Hid (mcB s (nn + 1) i p m = mcB s nn (i + 1) p' m') := mcB_go HCOL.out (by rw [HP1.out.2]; exact HJ.out.1.symm)
            go_wp2
            go_roundw
            case rel => exact ⟨i + 1, p', m', by have := HI6.out; omega, by simp, ⟨by rw [show 6 - (i + 1) = nn by have := HNN.out; omega, ← HN2.out, ← HNN.out]; exact HIV.out.1, HJ.out.2.1, HJ.out.2.2⟩, HM.out⟩
            case measure => have := HI6.out; simp [intOf]; omega
    · obtain rfl : i = 6 := by have := HI.out; omega
      clear hi
      have HP : Hid (pMC s = .inl m) := by show _ = _; rw [HPM.out, ← HIV.out.1]; rfl
      go_wp2_with (first | (refine wpList_load_mac (.tmp 6) rfl M m rfl HMS.out.2.1 rfl ?_) | (refine wpList_store_mac (.tmp 2) (.tmp 61) rfl rfl B mz m rfl rfl HMS.out.2.2.1 rfl ?_))
      intro wE hRE kE
      have HE : Hid (MacAt wE B m ∧ Below w.heap.size w wE) := ⟨hRE, HMS.out.2.2.2.trans (kE.below (fun q h => by have h' : q = B := h; have := HNE.out; omega) HMS.out.2.2.2.size)⟩
      clear hRE kE
      go_wp2
      (try simp only [Exit.inBlock, Exit.then])
      refine bodyPost_ret (results_mac_tmp2 rfl _ _ B m rfl HE.out.1) rfl ?_
      exact ⟨by rw [HP.out]; rfl, HE.out.2⟩
theorem parseMac_any (s : ByteArray) (w : World) : Calls Tryd.prog 21 #[.string s] w fun r w' => r = .returned (mcO (pMC s)) ∧ Below w.heap.size w w' := by
  by_cases h1 : s.size ≤ 17
  · exact parseMac_short s w h1
  · exact parseMac_long s w (by omega)
end Go.Proofs.YtfeabifjnihooaaDoor
