/-
  Layer 18: the purse: a tick; whether a class is ready.
-/
import Derived.Test.YtclkcpdghpaboaaQB6
namespace Go.Proofs.Ytclkcpdghpaboaa
open Go.RowKit Go.ChangeShapes Go.WideShapes

def lAt (ls : List LI) (j : Nat) : LI := ls.getD j lz
theorem lAt_some {ls : List LI} {j : Nat} {l : LI} (h : ls[j]? = some l) : lAt ls j = l := by simp [lAt, List.getD, h]
def tkF (l : LI) (z : Int) : Int := if l.bu < z + l.ra then l.bu else z + l.ra
/-- a purse ticked up to k -/
def Tkd (ls : List LI) (ts : List Int) (k : Nat) (us : List Int) : Prop := us.length = ts.length ∧ ∀ (j : Nat) (z : Int), ts[j]? = some z → us[j]? = some (if j < k then tkF (lAt ls j) z else z)
theorem Tkd.zero (ls : List LI) (ts : List Int) : Tkd ls ts 0 ts := ⟨rfl, fun j z h => by rw [if_neg (by omega)]; exact h⟩
theorem Tkd.step {ls : List LI} {ts us : List Int} {k : Nat} {z : Int} {l : LI} (h : Tkd ls ts k us) (hz : ts[k]? = some z) (hl : ls[k]? = some l) : Tkd ls ts (k + 1) (us.set k (tkF l z)) := by
  have hk := (List.getElem?_eq_some_iff.1 hz).1
  refine ⟨by rw [List.length_set]; exact h.1, fun j y hy => ?_⟩
  by_cases e : j = k
  · subst e
    rw [hz, Option.some.injEq] at hy
    subst hy
    rw [List.getElem?_set_self (by rw [h.1]; exact hk), if_pos (by omega), lAt_some hl]
  · rw [List.getElem?_set_ne (fun x => e x.symm), h.2 j y hy]
    by_cases e2 : j < k
    · rw [if_pos e2, if_pos (by omega)]
    · rw [if_neg e2, if_neg (by omega)]
set_option maxHeartbeats 6400000 in
set_option maxRecDepth 100000 in
theorem ptick_any (N p : Nat) (tv : Value) (ts : List Int) (a : Option Addr) (n c : Nat) (ls : List LI) (w : World) (hp : PK N w p tv ts) (hL : ListG 5 liL LiW w a ls) (hn : ls.length = n) (ht : ts.length = n) (h8 : 1 ≤ n ∧ n ≤ 8) (hb : ∀ (j : Nat) (z : Int), ts[j]? = some z → W64 (z + (lAt ls j).ra)) (hap : ∀ q x, a = some x → tv.ownBlock = some q → x.block ≠ q) : Calls Try.prog 28 #[.pointer (some ⟨p, 0, none⟩), .slice a n c] w fun e w' => ∃ us, e = .returned (.tuple #[]) ∧ PK N w' p tv us ∧ Tkd ls ts n us ∧ Ch (fun q => tv.ownBlock = some q) w w' := by
  have HL : Hid (ListG 5 liL LiW w a ls ∧ ls.length = n ∧ ts.length = n ∧ (∀ (j : Nat) (z : Int), ts[j]? = some z → W64 (z + (lAt ls j).ra)) ∧ PK N w p tv ts ∧ (∀ q x, a = some x → tv.ownBlock = some q → x.block ≠ q)) := ⟨hL, hn, ht, hb, hp, hap⟩
  obtain ⟨z1, hz1⟩ : ∃ z, ts[0]? = some z := ⟨_, List.getElem?_eq_getElem (by omega)⟩
  obtain ⟨g, tc, htv, _, _, _⟩ := hp.t.at inL_len 0 z1 hz1
  rw [ht] at htv
  subst htv
  clear hL hn ht hb hp hap hz1
  go_enter Try.func28, Try.ntmps28
  go_wp2_with fail
  go_loopw [4] (fun ix wr => ∃ (k : Nat) (us : List Int), ix = .int .i64 (k : Nat) ∧ k ≤ n ∧ Hid (PK N wr p (.slice (some ⟨g, 0, none⟩) n tc) us ∧ Ch (fun q => q = g) w wr ∧ Tkd ls ts k us)) (fun ix _ => n - (intOf ix).toNat)
  case atStart => exact ⟨0, ts, rfl, Nat.zero_le _, HL.out.2.2.2.2.1, Ch.refl _ _, Tkd.zero ls ts⟩
  case round =>
    obtain ⟨k, us, rfl, hk, HI⟩ := hrel
    by_cases hkn : k < n
    · have p1 : decide ((k : Int) < (n : Int)) = true := decide_eq_true (by omega)
      have p2 : decide (k < n) = true := decide_eq_true hkn
      have k0 : (0 : Int) ≤ (k : Int) := by omega
      have k1 : (k : Int) < (n : Int) := by omega
      have k2 : ((k : Int)).toNat = k := by omega
      have wk : IntKind.i64.wrap ((k : Int) + 1) = (k : Int) + 1 := i64_s _ (by omega) (by omega)
      have HKN : Hid (k < n) := hkn
      obtain ⟨l, hl⟩ : ∃ l, ls[k]? = some l := ⟨_, List.getElem?_eq_getElem (by rw [HL.out.2.1]; exact hkn)⟩
      obtain ⟨hlw, ab, off, rfl, hra⟩ := HL.out.1.row k l hl
      obtain ⟨z, hz⟩ : ∃ z, ts[k]? = some z := ⟨_, List.getElem?_eq_getElem (by rw [HL.out.2.2.1]; exact hkn)⟩
      have hw64 := HL.out.2.2.2.1 k z hz
      rw [lAt_some hl] at hw64
      have wz : IntKind.i64.wrap (z + l.ra) = z + l.ra := i64_w hw64
      have husk0 : us[k]? = some z := by have h1 := HI.out.2.2.2 k z hz; rwa [if_neg (by omega)] at h1
      have HZ : Hid (ls[k]? = some l ∧ ts[k]? = some z ∧ us[k]? = some z) := ⟨hl, hz, husk0⟩
      have HAG : Hid (¬ ab = g) := fun e => HL.out.2.2.2.2.2 g ⟨ab, off, none⟩ rfl rfl e
      have HR0 : Hid (w.rangeAt ab (off + k * 5) (liA l).toList) := hra
      have HRA : Hid (wr.rangeAt ab (off + k * 5) (liA l).toList) := range_ch hra HI.out.2.1 HAG.out
      clear hl hlw hra hz hw64 husk0 hkn hk
      go_upto_region 3 with fail
      refine MixH.start (fun A => PurAt A p (.slice (some ⟨g, 0, none⟩) n tc) ∧ A.rangeAt ab (off + k * 5) (liA l).toList) (by kernel_rfl) ?_
      obtain ⟨wA, hwA⟩ : ∃ W_, W_ = wr.drew := ⟨_, rfl⟩
      have bdr : Below wr.heap.size wr wA := by rw [hwA]; exact (Below.refl _ _).drew
      have HA : Hid (PK N wA p (.slice (some ⟨g, 0, none⟩) n tc) us ∧ Ch (fun q => q = g) w wA) := ⟨HI.out.1.below bdr, HI.out.2.1.trans (Ch.ofBelow (S := fun _ => False) bdr) (fun _ _ e => e.elim)⟩
      have usk : us[k]? = some z := HZ.out.2.2
      have hS : PurAt wA p (.slice (some ⟨g, 0, none⟩) n tc) ∧ wA.rangeAt ab (off + k * 5) (liA l).toList := ⟨HA.out.1.at', range_bel HRA.out bdr⟩
      have HUK : Hid (us[k]? = some z) := usk
      clear usk
      rw [← hwA]
      clear hwA bdr
      refine MixH.takes [true, true, true, false, true, true, true, true, false, true, false, false, true, true, true, true] 8 (by kernel_rfl) (by kernel_rfl) (by decide) (by kernel_rfl) hS (fun K hK => ?_)
      simp only [Mix.pick]
      repeat (go_big_quiet_step (fail))
      refine wpQuiet_nil (hK _ ?_)
      clear hK K
      refine MixH.take 7 3 _ (.slice (some ⟨g, 0, none⟩) n tc) rfl (by kernel_rfl) (by kernel_rfl) (by kernel_rfl) (by kernel_rfl) (yields_bkn (.tmp 13) rfl ⟨p, 0, none⟩ (.slice (some ⟨g, 0, none⟩) n tc) rfl rfl (fun A hA => hA.1.cell)) hS (fun a' ha => ?_)
      simp only [Act.put, List.setIfInBounds_toArray, List.set_cons_succ, List.set_cons_zero] at ha
      subst ha
      refine MixH.take 6 8 _ (.slice (some ⟨g, 0, none⟩) n tc) rfl (by kernel_rfl) (by kernel_rfl) (by kernel_rfl) (by kernel_rfl) (yields_bkn (.tmp 18) rfl ⟨p, 0, none⟩ (.slice (some ⟨g, 0, none⟩) n tc) rfl rfl (fun A hA => hA.1.cell)) hS (fun a' ha => ?_)
      simp only [Act.put, List.setIfInBounds_toArray, List.set_cons_succ, List.set_cons_zero] at ha
      subst ha
      refine MixH.takes [false, false, false, false, false, false, false, false, false, false, true] 5 (by kernel_rfl) (by kernel_rfl) (by decide) (by kernel_rfl) hS (fun K hK => ?_)
      simp only [Mix.pick]
      repeat (go_big_quiet_step (fail))
      refine wpQuiet_nil (hK _ ?_)
      clear hK K
      refine MixH.take 4 16 _ (.int .i64 l.ra) rfl (by kernel_rfl) (by kernel_rfl) (by kernel_rfl) (by kernel_rfl) (yields_int (.tmp 26) rfl ⟨ab, off + k * 5 + 3, none⟩ (.int .i64 l.ra) rfl rfl (fun A hA => hA.2 3 _ rfl)) hS (fun a' ha => ?_)
      simp only [Act.put, List.setIfInBounds_toArray, List.set_cons_succ, List.set_cons_zero] at ha
      subst ha
      refine MixH.one [false, false, false, false, false, false, false, false, false, false, false, true] 3 11 _ rfl rfl (by kernel_rfl) (by kernel_rfl) (fun K hK => ?_)
      simp only [Mix.pick]
      have cT : wA.cell? ⟨g, k, none⟩ = some (.int .i64 z) := HA.out.1.t.cell1 inL_len HUK.out rfl
      go_wp2_with fail
      clear cT
      refine ⟨rfl, hK _ _ hS ?_⟩
      clear hK K
      refine MixH.takes [false, false, false, false, false, false, false, false, false, false, false, false, false, false, false, false, false, true, true] 1 (by kernel_rfl) (by kernel_rfl) (by decide) (by kernel_rfl) hS (fun K hK => ?_)
      simp only [Mix.pick]
      repeat (go_big_quiet_step (fail))
      refine wpQuiet_nil (hK _ ?_)
      clear hK K
      refine MixH.one [false, false, false, false, false, false, false, false, false, false, false, false, false, false, false, false, false, false, false, true] 0 19 _ rfl rfl (by kernel_rfl) (by kernel_rfl) (fun K hK => ?_)
      simp only [Mix.pick]
      have usk := HUK.out
      have cT : wA.cell? ⟨g, k, none⟩ = some (.int .i64 (z)) := HA.out.1.t.cell1 inL_len usk rfl
      have zT := HA.out.1.t.frozen k
      have kk : Ch (fun q => q = g) wA (wA.setCell ⟨g, k, none⟩ (.int .i64 (z + l.ra))) := (Ch.refl (fun q => q = g) wA).set ⟨g, k, none⟩ _ rfl
      have hpg : ¬ p = g := fun e => by
        have h1 := HA.out.1.at'
        rw [e] at h1
        obtain ⟨_, _, c, hc⟩ := HA.out.1.t.kind g rfl
        exact tk_ne h1 hc (by decide)
      have hag : ¬ ab = g := HAG.out
      have HB : Hid (PK N (wA.setCell ⟨g, k, none⟩ (.int .i64 (z + l.ra))) p (.slice (some ⟨g, 0, none⟩) n tc) (us.set k (z + l.ra)) ∧ Ch (fun q => q = g) w (wA.setCell ⟨g, k, none⟩ (.int .i64 (z + l.ra)))) := ⟨⟨HA.out.1.lo, HA.out.1.at'.ch kk hpg, HA.out.1.t.set1 inL_len (u := .int .i64 (z + l.ra)) rfl (List.getElem?_eq_some_iff.1 usk).1⟩, HA.out.2.trans kk (fun _ _ e => e)⟩
      replace hS : PurAt (wA.setCell ⟨g, k, none⟩ (.int .i64 (z + l.ra))) p (.slice (some ⟨g, 0, none⟩) n tc) ∧ (wA.setCell ⟨g, k, none⟩ (.int .i64 (z + l.ra))).rangeAt ab (off + k * 5) (liA l).toList := ⟨hS.1.ch kk hpg, range_ch hS.2 kk hag⟩
      clear kk hpg hag usk
      go_wp2_with fail
      clear cT
      refine ⟨rfl, hK _ _ hS ?_⟩
      clear hK K
      refine MixH.done (by kernel_rfl) ?_
      clear hS
      obtain ⟨wB, hwB⟩ : ∃ y, wA.setCell ⟨g, k, none⟩ (.int .i64 (z + l.ra)) = y := ⟨_, rfl⟩
      rw [hwB] at HB ⊢
      clear hwB
      have HUB : Hid ((us.set k (z + l.ra))[k]? = some (z + l.ra)) := List.getElem?_set_self (List.getElem?_eq_some_iff.1 HUK.out).1
      by_cases hgt : l.bu < z + l.ra
      · have g1 : decide (l.bu < z + l.ra) = true := decide_eq_true hgt
        have HF : Hid (tkF l z = l.bu) := if_pos hgt
        clear hgt
        go_upto_region 4 with fail
        refine MixH.start (fun A => PurAt A p (.slice (some ⟨g, 0, none⟩) n tc) ∧ A.rangeAt ab (off + k * 5) (liA l).toList ∧ A.cell? ⟨g, k, none⟩ = some (.int .i64 (z + l.ra))) (by kernel_rfl) ?_
        obtain ⟨wC, hwA⟩ : ∃ W_, W_ = wB.drew := ⟨_, rfl⟩
        have bdr : Below wB.heap.size wB wC := by rw [hwA]; exact (Below.refl _ _).drew
        have HC : Hid (PK N wC p (.slice (some ⟨g, 0, none⟩) n tc) (us.set k (z + l.ra)) ∧ Ch (fun q => q = g) w wC) := ⟨HB.out.1.below bdr, HB.out.2.trans (Ch.ofBelow (S := fun _ => False) bdr) (fun _ _ e => e.elim)⟩
        have hRC : wC.rangeAt ab (off + k * 5) (liA l).toList := range_ch HR0.out HC.out.2 HAG.out
        have hS : PurAt wC p (.slice (some ⟨g, 0, none⟩) n tc) ∧ wC.rangeAt ab (off + k * 5) (liA l).toList ∧ wC.cell? ⟨g, k, none⟩ = some (.int .i64 (z + l.ra)) := ⟨HC.out.1.at', hRC, HC.out.1.t.cell1 inL_len HUB.out rfl⟩
        clear hRC
        rw [← hwA]
        clear hwA bdr
        refine MixH.takes [true, true, true, false, true, false, false, true, true, true, true] 5 (by kernel_rfl) (by kernel_rfl) (by decide) (by kernel_rfl) hS (fun K hK => ?_)
        simp only [Mix.pick]
        repeat (go_big_quiet_step (fail))
        refine wpQuiet_nil (hK _ ?_)
        clear hK K
        refine MixH.take 4 3 _ (.slice (some ⟨g, 0, none⟩) n tc) rfl (by kernel_rfl) (by kernel_rfl) (by kernel_rfl) (by kernel_rfl) (yields_bkn (.tmp 32) rfl ⟨p, 0, none⟩ (.slice (some ⟨g, 0, none⟩) n tc) rfl rfl (fun A hA => hA.1.cell)) hS (fun a' ha => ?_)
        simp only [Act.put, List.setIfInBounds_toArray, List.set_cons_succ, List.set_cons_zero] at ha
        subst ha
        refine MixH.takes [false, false, false, false, false, true] 3 (by kernel_rfl) (by kernel_rfl) (by decide) (by kernel_rfl) hS (fun K hK => ?_)
        simp only [Mix.pick]
        repeat (go_big_quiet_step (fail))
        refine wpQuiet_nil (hK _ ?_)
        clear hK K
        refine MixH.take 2 6 _ (.int .i64 (z + l.ra)) rfl (by kernel_rfl) (by kernel_rfl) (by kernel_rfl) (by kernel_rfl) (yields_int (.tmp 35) rfl ⟨g, k, none⟩ (.int .i64 (z + l.ra)) rfl rfl (fun A hA => hA.2.2)) hS (fun a' ha => ?_)
        simp only [Act.put, List.setIfInBounds_toArray, List.set_cons_succ, List.set_cons_zero] at ha
        subst ha
        refine MixH.take 1 11 _ (.int .i64 l.bu) rfl (by kernel_rfl) (by kernel_rfl) (by kernel_rfl) (by kernel_rfl) (yields_int (.tmp 40) rfl ⟨ab, off + k * 5 + 4, none⟩ (.int .i64 l.bu) rfl rfl (fun A hA => hA.2.1 4 _ rfl)) hS (fun a' ha => ?_)
        simp only [Act.put, List.setIfInBounds_toArray, List.set_cons_succ, List.set_cons_zero] at ha
        subst ha
        refine MixH.takes [false, false, false, false, false, false, false, false, false, false, false, false, true] 0 (by kernel_rfl) (by kernel_rfl) (by decide) (by kernel_rfl) hS (fun K hK => ?_)
        simp only [Mix.pick]
        repeat (go_big_quiet_step (fail))
        refine wpQuiet_nil (hK _ ?_)
        clear hK K
        refine MixH.done (by kernel_rfl) ?_
        clear hS
        go_upto_region 5 with fail
        refine MixH.start (fun A => PurAt A p (.slice (some ⟨g, 0, none⟩) n tc) ∧ A.rangeAt ab (off + k * 5) (liA l).toList) (by kernel_rfl) ?_
        obtain ⟨wD, hwA⟩ : ∃ W_, W_ = wC.drew := ⟨_, rfl⟩
        have bdr : Below wC.heap.size wC wD := by rw [hwA]; exact (Below.refl _ _).drew
        have HD : Hid (PK N wD p (.slice (some ⟨g, 0, none⟩) n tc) (us.set k (z + l.ra)) ∧ Ch (fun q => q = g) w wD) := ⟨HC.out.1.below bdr, HC.out.2.trans (Ch.ofBelow (S := fun _ => False) bdr) (fun _ _ e => e.elim)⟩
        have hS : PurAt wD p (.slice (some ⟨g, 0, none⟩) n tc) ∧ wD.rangeAt ab (off + k * 5) (liA l).toList := ⟨HD.out.1.at', range_ch HR0.out HD.out.2 HAG.out⟩
        rw [← hwA]
        clear hwA bdr
        refine MixH.takes [true, true, true, false, true, true, true, true, true] 4 (by kernel_rfl) (by kernel_rfl) (by decide) (by kernel_rfl) hS (fun K hK => ?_)
        simp only [Mix.pick]
        repeat (go_big_quiet_step (fail))
        refine wpQuiet_nil (hK _ ?_)
        clear hK K
        refine MixH.take 3 3 _ (.slice (some ⟨g, 0, none⟩) n tc) rfl (by kernel_rfl) (by kernel_rfl) (by kernel_rfl) (by kernel_rfl) (yields_bkn (.tmp 45) rfl ⟨p, 0, none⟩ (.slice (some ⟨g, 0, none⟩) n tc) rfl rfl (fun A hA => hA.1.cell)) hS (fun a' ha => ?_)
        simp only [Act.put, List.setIfInBounds_toArray, List.set_cons_succ, List.set_cons_zero] at ha
        subst ha
        refine MixH.take 2 9 _ (.int .i64 l.bu) rfl (by kernel_rfl) (by kernel_rfl) (by kernel_rfl) (by kernel_rfl) (yields_int (.tmp 51) rfl ⟨ab, off + k * 5 + 4, none⟩ (.int .i64 l.bu) rfl rfl (fun A hA => hA.2 4 _ rfl)) hS (fun a' ha => ?_)
        simp only [Act.put, List.setIfInBounds_toArray, List.set_cons_succ, List.set_cons_zero] at ha
        subst ha
        refine MixH.takes [false, false, false, false, false, false, false, false, false, false, true] 1 (by kernel_rfl) (by kernel_rfl) (by decide) (by kernel_rfl) hS (fun K hK => ?_)
        simp only [Mix.pick]
        repeat (go_big_quiet_step (fail))
        refine wpQuiet_nil (hK _ ?_)
        clear hK K
        refine MixH.one [false, false, false, false, false, false, false, false, false, false, false, true] 0 11 _ rfl rfl (by kernel_rfl) (by kernel_rfl) (fun K hK => ?_)
        simp only [Mix.pick]
        have vsk := HUB.out
        have cT : wD.cell? ⟨g, k, none⟩ = some (.int .i64 (z + l.ra)) := HD.out.1.t.cell1 inL_len vsk rfl
        have zT := HD.out.1.t.frozen k
        have kk : Ch (fun q => q = g) wD (wD.setCell ⟨g, k, none⟩ (.int .i64 (l.bu))) := (Ch.refl (fun q => q = g) wD).set ⟨g, k, none⟩ _ rfl
        have hpg : ¬ p = g := fun e => by
          have h1 := HD.out.1.at'
          rw [e] at h1
          obtain ⟨_, _, c, hc⟩ := HD.out.1.t.kind g rfl
          exact tk_ne h1 hc (by decide)
        have hag : ¬ ab = g := HAG.out
        have HE : Hid (PK N (wD.setCell ⟨g, k, none⟩ (.int .i64 (l.bu))) p (.slice (some ⟨g, 0, none⟩) n tc) ((us.set k (z + l.ra)).set k l.bu) ∧ Ch (fun q => q = g) w (wD.setCell ⟨g, k, none⟩ (.int .i64 (l.bu)))) := ⟨⟨HD.out.1.lo, HD.out.1.at'.ch kk hpg, HD.out.1.t.set1 inL_len (u := .int .i64 (l.bu)) rfl (List.getElem?_eq_some_iff.1 vsk).1⟩, HD.out.2.trans kk (fun _ _ e => e)⟩
        replace hS : PurAt (wD.setCell ⟨g, k, none⟩ (.int .i64 (l.bu))) p (.slice (some ⟨g, 0, none⟩) n tc) ∧ (wD.setCell ⟨g, k, none⟩ (.int .i64 (l.bu))).rangeAt ab (off + k * 5) (liA l).toList := ⟨hS.1.ch kk hpg, range_ch hS.2 kk hag⟩
        clear kk hpg hag vsk
        go_wp2_with fail
        clear cT
        refine ⟨rfl, hK _ _ hS ?_⟩
        clear hK K
        refine MixH.done (by kernel_rfl) ?_
        clear hS
        go_wp2_with fail
        go_roundw
        case rel =>
          have h1 := HE.out
          rw [List.set_set] at h1
          have h2 := HI.out.2.2.step HZ.out.2.1 HZ.out.1
          rw [HF.out] at h2
          exact ⟨k + 1, _, by first | rfl | go_num, by have := HKN.out; omega, h1.1, h1.2, h2⟩
        case measure => have := HKN.out; simp [intOf]; omega
      · have g1 : decide (l.bu < z + l.ra) = false := decide_eq_false hgt
        have HF : Hid (tkF l z = z + l.ra) := if_neg hgt
        clear hgt
        go_upto_region 4 with fail
        refine MixH.start (fun A => PurAt A p (.slice (some ⟨g, 0, none⟩) n tc) ∧ A.rangeAt ab (off + k * 5) (liA l).toList ∧ A.cell? ⟨g, k, none⟩ = some (.int .i64 (z + l.ra))) (by kernel_rfl) ?_
        obtain ⟨wC, hwA⟩ : ∃ W_, W_ = wB.drew := ⟨_, rfl⟩
        have bdr : Below wB.heap.size wB wC := by rw [hwA]; exact (Below.refl _ _).drew
        have HC : Hid (PK N wC p (.slice (some ⟨g, 0, none⟩) n tc) (us.set k (z + l.ra)) ∧ Ch (fun q => q = g) w wC) := ⟨HB.out.1.below bdr, HB.out.2.trans (Ch.ofBelow (S := fun _ => False) bdr) (fun _ _ e => e.elim)⟩
        have hRC : wC.rangeAt ab (off + k * 5) (liA l).toList := range_ch HR0.out HC.out.2 HAG.out
        have hS : PurAt wC p (.slice (some ⟨g, 0, none⟩) n tc) ∧ wC.rangeAt ab (off + k * 5) (liA l).toList ∧ wC.cell? ⟨g, k, none⟩ = some (.int .i64 (z + l.ra)) := ⟨HC.out.1.at', hRC, HC.out.1.t.cell1 inL_len HUB.out rfl⟩
        clear hRC
        rw [← hwA]
        clear hwA bdr
        refine MixH.takes [true, true, true, false, true, false, false, true, true, true, true] 5 (by kernel_rfl) (by kernel_rfl) (by decide) (by kernel_rfl) hS (fun K hK => ?_)
        simp only [Mix.pick]
        repeat (go_big_quiet_step (fail))
        refine wpQuiet_nil (hK _ ?_)
        clear hK K
        refine MixH.take 4 3 _ (.slice (some ⟨g, 0, none⟩) n tc) rfl (by kernel_rfl) (by kernel_rfl) (by kernel_rfl) (by kernel_rfl) (yields_bkn (.tmp 32) rfl ⟨p, 0, none⟩ (.slice (some ⟨g, 0, none⟩) n tc) rfl rfl (fun A hA => hA.1.cell)) hS (fun a' ha => ?_)
        simp only [Act.put, List.setIfInBounds_toArray, List.set_cons_succ, List.set_cons_zero] at ha
        subst ha
        refine MixH.takes [false, false, false, false, false, true] 3 (by kernel_rfl) (by kernel_rfl) (by decide) (by kernel_rfl) hS (fun K hK => ?_)
        simp only [Mix.pick]
        repeat (go_big_quiet_step (fail))
        refine wpQuiet_nil (hK _ ?_)
        clear hK K
        refine MixH.take 2 6 _ (.int .i64 (z + l.ra)) rfl (by kernel_rfl) (by kernel_rfl) (by kernel_rfl) (by kernel_rfl) (yields_int (.tmp 35) rfl ⟨g, k, none⟩ (.int .i64 (z + l.ra)) rfl rfl (fun A hA => hA.2.2)) hS (fun a' ha => ?_)
        simp only [Act.put, List.setIfInBounds_toArray, List.set_cons_succ, List.set_cons_zero] at ha
        subst ha
        refine MixH.take 1 11 _ (.int .i64 l.bu) rfl (by kernel_rfl) (by kernel_rfl) (by kernel_rfl) (by kernel_rfl) (yields_int (.tmp 40) rfl ⟨ab, off + k * 5 + 4, none⟩ (.int .i64 l.bu) rfl rfl (fun A hA => hA.2.1 4 _ rfl)) hS (fun a' ha => ?_)
        simp only [Act.put, List.setIfInBounds_toArray, List.set_cons_succ, List.set_cons_zero] at ha
        subst ha
        refine MixH.takes [false, false, false, false, false, false, false, false, false, false, false, false, true] 0 (by kernel_rfl) (by kernel_rfl) (by decide) (by kernel_rfl) hS (fun K hK => ?_)
        simp only [Mix.pick]
        repeat (go_big_quiet_step (fail))
        refine wpQuiet_nil (hK _ ?_)
        clear hK K
        refine MixH.done (by kernel_rfl) ?_
        clear hS
        go_wp2_with fail
        go_roundw
        case rel =>
          have h2 := HI.out.2.2.step HZ.out.2.1 HZ.out.1
          rw [HF.out] at h2
          exact ⟨k + 1, _, by first | rfl | go_num, by have := HKN.out; omega, HC.out.1, HC.out.2, h2⟩
        case measure => have := HKN.out; simp [intOf]; omega
    · have p1 : decide ((k : Int) < (n : Int)) = false := decide_eq_false (by omega)
      have p2 : decide (k < n) = false := decide_eq_false hkn
      have HKN : Hid (k = n) := by show k = n; omega
      clear hkn hk
      go_wp2
      go_end0
      have h1 := HI.out
      rw [HKN.out] at h1
      exact ⟨us, rfl, h1.1, h1.2.2, h1.2.1.mono (fun q _ e => by have e' : q = g := e; rw [e']; rfl)⟩
set_option maxHeartbeats 6400000 in
set_option maxRecDepth 100000 in
theorem pready_any (N N' B p : Nat) (lv bv sv tv : Value) (ms : List BM) (cs : List CL) (t : TN) (w : World) (hk : BK N w B lv bv sv ms) (hp : PK N' w p tv (cs.map CL.tk)) (hq : QOk cs t) (hag : Ag ms cs) (a : Option Addr) (n c : Nat) (hL : ListG 5 liL LiW w a (cs.map CL.li)) (hcn : cs.length = n) (i : Nat) (hi : i < n) : Calls Try.prog 29 #[.pointer (some ⟨p, 0, none⟩), .slice a n c, .pointer (some ⟨B, 0, none⟩), .int .i64 (i : Nat)] w fun r w' => r = .returned (.bool (cAt cs i).rdy) ∧ Below w.heap.size w w' := by
  have hml : i < ms.length := by rw [hag.len, hcn]; exact hi
  obtain ⟨m, hm⟩ : ∃ m, ms[i]? = some m := ⟨_, List.getElem?_eq_getElem hml⟩
  have hmn : ms.length = n := by rw [hag.len]; exact hcn
  obtain ⟨gl, cl, hlv, _, _, _⟩ := hk.l.at bmV_len i m hm
  rw [hmn] at hlv
  subst hlv
  have hci : i < cs.length := by rw [hcn]; exact hi
  obtain ⟨z, hz⟩ : ∃ z, (cs.map CL.tk)[i]? = some z := ⟨_, List.getElem?_eq_getElem (by rw [List.length_map]; exact hci)⟩
  have hz2 : (cAt cs i).tk = z := by rw [List.getElem?_map, cAt_get hci] at hz; simpa using hz
  obtain ⟨g, tc, htv, _, _, _⟩ := hp.t.at inL_len i z hz
  rw [List.length_map, hcn] at htv
  subst htv
  obtain ⟨l, hl⟩ : ∃ l, (cAt cs i).li = l := ⟨_, rfl⟩
  obtain ⟨hlw, ab, off, rfl, hra⟩ := hL.row i l (by rw [List.getElem?_map, cAt_get hci, ← hl]; rfl)
  have hag2 := hag.at' i m hm
  have hln := hk.ln m (List.mem_of_getElem? hm)
  have hra0 := (hq.c hci).li.ra.1
  rw [hl] at hra0
  have q1 : decide ((i : Int) < 0) = false := decide_eq_false (by omega)
  have k0 : (0 : Int) ≤ (i : Int) := by omega
  have k1 : (i : Int) < (n : Int) := by omega
  have k2 : ((i : Int)).toNat = i := by omega
  have HK : Hid (BK N w B (.slice (some ⟨gl, 0, none⟩) n cl) bv sv ms ∧ PK N' w p (.slice (some ⟨g, 0, none⟩) n tc) (cs.map CL.tk) ∧ w.rangeAt ab (off + i * 5) (liA l).toList ∧ (cs.map CL.tk)[i]? = some z ∧ ms[i]? = some m) := ⟨hk, hp, hra, hz, hm⟩
  cases hM : m.M with
  | nil =>
    have HRES : Hid ((cAt cs i).rdy = false) := by show _ = _; unfold CL.rdy wtB; rw [← hag2.1, hM]; rfl
    obtain ⟨ma, hma⟩ : ∃ x, m.a = x := ⟨_, rfl⟩
    obtain ⟨mc, hmc⟩ : ∃ x, m.c = x := ⟨_, rfl⟩
    have HV : Hid (m.v = .slice ma 0 mc) := by show _ = _; unfold BM.v; rw [hma, hmc, hM]; rfl
    clear hml hm hmn hci hz hz2 hl hlw hra hag2 hln hra0 hma hmc hM hk hp hL hag hcn hq hi
    go_enter Try.func29, Try.ntmps29
    go_upto_region 1 with fail
    refine MixH.start (fun A => BovAt A B (.slice (some ⟨gl, 0, none⟩) n cl) bv sv ∧ A.cell? ⟨gl, i, none⟩ = some (.slice ma 0 mc) ∧ A.rangeAt ab (off + i * 5) (liA l).toList) (by kernel_rfl) ?_
    obtain ⟨wA, hwA⟩ : ∃ W_, W_ = w.drew := ⟨_, rfl⟩
    have bdr : Below w.heap.size w wA := by rw [hwA]; exact (Below.refl _ _).drew
    have bdrX : Hid (Below w.heap.size w wA) := bdr
    have hS : BovAt wA B (.slice (some ⟨gl, 0, none⟩) n cl) bv sv ∧ wA.cell? ⟨gl, i, none⟩ = some (.slice ma 0 mc) ∧ wA.rangeAt ab (off + i * 5) (liA l).toList := ⟨HK.out.1.at'.below bdr, (HK.out.1.l.below bdr).cell1 bmV_len HK.out.2.2.2.2 (by unfold bmV; rw [HV.out]), range_bel HK.out.2.2.1 bdr⟩
    rw [← hwA]
    clear hwA bdr
    refine MixH.takes [true, true, true, false, true] 34 (by kernel_rfl) (by kernel_rfl) (by decide) (by kernel_rfl) hS (fun K hK => ?_)
    simp only [Mix.pick]
    repeat (go_big_quiet_step (fail))
    refine wpQuiet_nil (hK _ ?_)
    clear hK K
    refine MixH.take 33 3 _ (.slice (some ⟨gl, 0, none⟩) n cl) rfl (by kernel_rfl) (by kernel_rfl) (by kernel_rfl) (by kernel_rfl) (yields_bks (.tmp 11) rfl ⟨B, 0, none⟩ (.slice (some ⟨gl, 0, none⟩) n cl) rfl rfl (fun A hA => hA.1.cell 0)) hS (fun a' ha => ?_)
    simp only [Act.put, List.setIfInBounds_toArray, List.set_cons_succ, List.set_cons_zero] at ha
    subst ha
    refine MixH.takes [false, false, false, false, false, true] 32 (by kernel_rfl) (by kernel_rfl) (by decide) (by kernel_rfl) hS (fun K hK => ?_)
    simp only [Mix.pick]
    repeat (go_big_quiet_step (fail))
    refine wpQuiet_nil (hK _ ?_)
    clear hK K
    refine MixH.take 31 6 _ (.slice ma 0 mc) rfl (by kernel_rfl) (by kernel_rfl) (by kernel_rfl) (by kernel_rfl) (yields_bki (.tmp 14) rfl ⟨gl, i, none⟩ (.slice ma 0 mc) rfl rfl (fun A hA => hA.2.1)) hS (fun a' ha => ?_)
    simp only [Act.put, List.setIfInBounds_toArray, List.set_cons_succ, List.set_cons_zero] at ha
    subst ha
    refine MixH.takes [false, false, false, false, false, false, false, true, true, true, true, true, true, true] 24 (by kernel_rfl) (by kernel_rfl) (by decide) (by kernel_rfl) hS (fun K hK => ?_)
    simp only [Mix.pick]
    repeat (go_big_quiet_step (fail))
    refine wpQuiet_nil (hK _ ?_)
    clear hK K
    refine MixH.take 23 14 _ (undef) rfl (by kernel_rfl) (by kernel_rfl) (by kernel_rfl) (by kernel_rfl) (.inr ⟨rfl, rfl⟩) hS (fun a' ha => ?_)
    simp only [Act.put, List.setIfInBounds_toArray, List.set_cons_succ, List.set_cons_zero] at ha
    subst ha
    refine MixH.takes [false, false, false, false, false, false, false, false, false, false, false, false, false, false, false, true, true, true, true, true, false, true, false, false, true, true, true, false, true] 13 (by kernel_rfl) (by kernel_rfl) (by decide) (by kernel_rfl) hS (fun K hK => ?_)
    simp only [Mix.pick]
    repeat (go_big_quiet_step (fail))
    refine wpQuiet_nil (hK _ ?_)
    clear hK K
    refine MixH.take 12 20 _ (undef) rfl (by kernel_rfl) (by kernel_rfl) (by kernel_rfl) (by kernel_rfl) (.inr ⟨rfl, rfl⟩) hS (fun a' ha => ?_)
    simp only [Act.put, List.setIfInBounds_toArray, List.set_cons_succ, List.set_cons_zero] at ha
    subst ha
    refine MixH.takes [false, false, false, false, false, false, false, false, false, false, false, false, false, false, false, false, false, false, false, false, false, false, true] 11 (by kernel_rfl) (by kernel_rfl) (by decide) (by kernel_rfl) hS (fun K hK => ?_)
    simp only [Mix.pick]
    repeat (go_big_quiet_step (fail))
    refine wpQuiet_nil (hK _ ?_)
    clear hK K
    refine MixH.take 10 23 _ (undef) rfl (by kernel_rfl) (by kernel_rfl) (by kernel_rfl) (by kernel_rfl) (.inr ⟨rfl, rfl⟩) hS (fun a' ha => ?_)
    simp only [Act.put, List.setIfInBounds_toArray, List.set_cons_succ, List.set_cons_zero] at ha
    subst ha
    refine MixH.take 9 27 _ (undef) rfl (by kernel_rfl) (by kernel_rfl) (by kernel_rfl) (by kernel_rfl) (.inr ⟨rfl, rfl⟩) hS (fun a' ha => ?_)
    simp only [Act.put, List.setIfInBounds_toArray, List.set_cons_succ, List.set_cons_zero] at ha
    subst ha
    refine MixH.takes [false, false, false, false, false, false, false, false, false, false, false, false, false, false, false, false, false, false, false, false, false, false, false, false, false, false, false, false, false, true] 8 (by kernel_rfl) (by kernel_rfl) (by decide) (by kernel_rfl) hS (fun K hK => ?_)
    simp only [Mix.pick]
    repeat (go_big_quiet_step (fail))
    refine wpQuiet_nil (hK _ ?_)
    clear hK K
    refine MixH.take 7 30 _ (undef) rfl (by kernel_rfl) (by kernel_rfl) (by kernel_rfl) (by kernel_rfl) (.inr ⟨rfl, rfl⟩) hS (fun a' ha => ?_)
    simp only [Act.put, List.setIfInBounds_toArray, List.set_cons_succ, List.set_cons_zero] at ha
    subst ha
    refine MixH.takes [false, false, false, false, false, false, false, false, false, false, false, false, false, false, false, false, false, false, false, false, false, false, false, false, false, false, false, false, false, false, false, true, true] 5 (by kernel_rfl) (by kernel_rfl) (by decide) (by kernel_rfl) hS (fun K hK => ?_)
    simp only [Mix.pick]
    repeat (go_big_quiet_step (fail))
    refine wpQuiet_nil (hK _ ?_)
    clear hK K
    refine MixH.take 4 33 _ (undef) rfl (by kernel_rfl) (by kernel_rfl) (by kernel_rfl) (by kernel_rfl) (.inr ⟨rfl, rfl⟩) hS (fun a' ha => ?_)
    simp only [Act.put, List.setIfInBounds_toArray, List.set_cons_succ, List.set_cons_zero] at ha
    subst ha
    refine MixH.takes [false, false, false, false, false, false, false, false, false, false, false, false, false, false, false, false, false, false, false, false, false, false, false, false, false, false, false, false, false, false, false, false, false, false, true, true, true, true] 0 (by kernel_rfl) (by kernel_rfl) (by decide) (by kernel_rfl) hS (fun K hK => ?_)
    simp only [Mix.pick]
    repeat (go_big_quiet_step (fail))
    refine wpQuiet_nil (hK _ ?_)
    clear hK K
    refine MixH.done (by kernel_rfl) ?_
    clear hS
    go_wp2_with fail
    go_ret
    exact ⟨by rw [HRES.out]; rfl, bdrX.out⟩
  | cons x M' =>
    obtain ⟨x1, x2⟩ := x
    rw [hM] at hln
    obtain ⟨gm, mo, mc, hv, hc, hx2, hx1⟩ := hln.head
    obtain ⟨ml, hml2⟩ : ∃ ml, M'.length + 1 = ml := ⟨_, rfl⟩
    rw [hml2] at hv hc
    have s1 : decide ((0 : Int) < (ml : Int)) = true := decide_eq_true (by omega)
    have s2 : decide (0 < ml) = true := decide_eq_true (by omega)
    have s3 : (0 : Int) < (ml : Int) := by omega
    have HV : Hid (m.v = .slice (some ⟨gm, mo, none⟩) ml mc ∧ w.cell? ⟨gm, mo, none⟩ = some (.int .i64 x2)) := ⟨hv, hx2⟩
    by_cases hr : l.ra = 0
    · have r1 : (l.ra == 0) = true := by simpa using hr
      have HRES : Hid ((cAt cs i).rdy = true) := by
        show _ = _
        unfold CL.rdy CL.held wtB
        rw [← hag2.1, hM, hl, hr]
        simp
      clear hml hm hmn hci hz hz2 hl hlw hra hag2 hln hra0 hM hv hc hx2 hx1 hml2 hr hk hp hL hag hcn hq hi
      go_enter Try.func29, Try.ntmps29
      go_upto_region 1 with fail
      refine MixH.start (fun A => BovAt A B (.slice (some ⟨gl, 0, none⟩) n cl) bv sv ∧ A.cell? ⟨gl, i, none⟩ = some (.slice (some ⟨gm, mo, none⟩) ml mc) ∧ A.rangeAt ab (off + i * 5) (liA l).toList) (by kernel_rfl) ?_
      obtain ⟨wA, hwA⟩ : ∃ W_, W_ = w.drew := ⟨_, rfl⟩
      have bdr : Below w.heap.size w wA := by rw [hwA]; exact (Below.refl _ _).drew
      have bdrX : Hid (Below w.heap.size w wA) := bdr
      have hS : BovAt wA B (.slice (some ⟨gl, 0, none⟩) n cl) bv sv ∧ wA.cell? ⟨gl, i, none⟩ = some (.slice (some ⟨gm, mo, none⟩) ml mc) ∧ wA.rangeAt ab (off + i * 5) (liA l).toList := ⟨HK.out.1.at'.below bdr, (HK.out.1.l.below bdr).cell1 bmV_len HK.out.2.2.2.2 (by unfold bmV; rw [HV.out.1]), range_bel HK.out.2.2.1 bdr⟩
      rw [← hwA]
      clear hwA bdr
      refine MixH.takes [true, true, true, false, true] 34 (by kernel_rfl) (by kernel_rfl) (by decide) (by kernel_rfl) hS (fun K hK => ?_)
      simp only [Mix.pick]
      repeat (go_big_quiet_step (fail))
      refine wpQuiet_nil (hK _ ?_)
      clear hK K
      refine MixH.take 33 3 _ (.slice (some ⟨gl, 0, none⟩) n cl) rfl (by kernel_rfl) (by kernel_rfl) (by kernel_rfl) (by kernel_rfl) (yields_bks (.tmp 11) rfl ⟨B, 0, none⟩ (.slice (some ⟨gl, 0, none⟩) n cl) rfl rfl (fun A hA => hA.1.cell 0)) hS (fun a' ha => ?_)
      simp only [Act.put, List.setIfInBounds_toArray, List.set_cons_succ, List.set_cons_zero] at ha
      subst ha
      refine MixH.takes [false, false, false, false, false, true] 32 (by kernel_rfl) (by kernel_rfl) (by decide) (by kernel_rfl) hS (fun K hK => ?_)
      simp only [Mix.pick]
      repeat (go_big_quiet_step (fail))
      refine wpQuiet_nil (hK _ ?_)
      clear hK K
      refine MixH.take 31 6 _ (.slice (some ⟨gm, mo, none⟩) ml mc) rfl (by kernel_rfl) (by kernel_rfl) (by kernel_rfl) (by kernel_rfl) (yields_bki (.tmp 14) rfl ⟨gl, i, none⟩ (.slice (some ⟨gm, mo, none⟩) ml mc) rfl rfl (fun A hA => hA.2.1)) hS (fun a' ha => ?_)
      simp only [Act.put, List.setIfInBounds_toArray, List.set_cons_succ, List.set_cons_zero] at ha
      subst ha
      refine MixH.takes [false, false, false, false, false, false, false, true, true, true, true, true, true, true] 24 (by kernel_rfl) (by kernel_rfl) (by decide) (by kernel_rfl) hS (fun K hK => ?_)
      simp only [Mix.pick]
      repeat (go_big_quiet_step (fail))
      refine wpQuiet_nil (hK _ ?_)
      clear hK K
      refine MixH.take 23 14 _ (.int .i64 l.ra) rfl (by kernel_rfl) (by kernel_rfl) (by kernel_rfl) (by kernel_rfl) (yields_int (.tmp 22) rfl ⟨ab, off + i * 5 + 3, none⟩ (.int .i64 l.ra) rfl rfl (fun A hA => hA.2.2 3 _ rfl)) hS (fun a' ha => ?_)
      simp only [Act.put, List.setIfInBounds_toArray, List.set_cons_succ, List.set_cons_zero] at ha
      subst ha
      refine MixH.takes [false, false, false, false, false, false, false, false, false, false, false, false, false, false, false, true, true, true, true, true, false, true, false, false, true, true, true, false, true] 13 (by kernel_rfl) (by kernel_rfl) (by decide) (by kernel_rfl) hS (fun K hK => ?_)
      simp only [Mix.pick]
      repeat (go_big_quiet_step (fail))
      refine wpQuiet_nil (hK _ ?_)
      clear hK K
      refine MixH.take 12 20 _ (undef) rfl (by kernel_rfl) (by kernel_rfl) (by kernel_rfl) (by kernel_rfl) (.inr ⟨rfl, rfl⟩) hS (fun a' ha => ?_)
      simp only [Act.put, List.setIfInBounds_toArray, List.set_cons_succ, List.set_cons_zero] at ha
      subst ha
      refine MixH.takes [false, false, false, false, false, false, false, false, false, false, false, false, false, false, false, false, false, false, false, false, false, false, true] 11 (by kernel_rfl) (by kernel_rfl) (by decide) (by kernel_rfl) hS (fun K hK => ?_)
      simp only [Mix.pick]
      repeat (go_big_quiet_step (fail))
      refine wpQuiet_nil (hK _ ?_)
      clear hK K
      refine MixH.take 10 23 _ (undef) rfl (by kernel_rfl) (by kernel_rfl) (by kernel_rfl) (by kernel_rfl) (.inr ⟨rfl, rfl⟩) hS (fun a' ha => ?_)
      simp only [Act.put, List.setIfInBounds_toArray, List.set_cons_succ, List.set_cons_zero] at ha
      subst ha
      refine MixH.take 9 27 _ (undef) rfl (by kernel_rfl) (by kernel_rfl) (by kernel_rfl) (by kernel_rfl) (.inr ⟨rfl, rfl⟩) hS (fun a' ha => ?_)
      simp only [Act.put, List.setIfInBounds_toArray, List.set_cons_succ, List.set_cons_zero] at ha
      subst ha
      refine MixH.takes [false, false, false, false, false, false, false, false, false, false, false, false, false, false, false, false, false, false, false, false, false, false, false, false, false, false, false, false, false, true] 8 (by kernel_rfl) (by kernel_rfl) (by decide) (by kernel_rfl) hS (fun K hK => ?_)
      simp only [Mix.pick]
      repeat (go_big_quiet_step (fail))
      refine wpQuiet_nil (hK _ ?_)
      clear hK K
      refine MixH.take 7 30 _ (undef) rfl (by kernel_rfl) (by kernel_rfl) (by kernel_rfl) (by kernel_rfl) (.inr ⟨rfl, rfl⟩) hS (fun a' ha => ?_)
      simp only [Act.put, List.setIfInBounds_toArray, List.set_cons_succ, List.set_cons_zero] at ha
      subst ha
      refine MixH.takes [false, false, false, false, false, false, false, false, false, false, false, false, false, false, false, false, false, false, false, false, false, false, false, false, false, false, false, false, false, false, false, true, true] 5 (by kernel_rfl) (by kernel_rfl) (by decide) (by kernel_rfl) hS (fun K hK => ?_)
      simp only [Mix.pick]
      repeat (go_big_quiet_step (fail))
      refine wpQuiet_nil (hK _ ?_)
      clear hK K
      refine MixH.take 4 33 _ (undef) rfl (by kernel_rfl) (by kernel_rfl) (by kernel_rfl) (by kernel_rfl) (.inr ⟨rfl, rfl⟩) hS (fun a' ha => ?_)
      simp only [Act.put, List.setIfInBounds_toArray, List.set_cons_succ, List.set_cons_zero] at ha
      subst ha
      refine MixH.takes [false, false, false, false, false, false, false, false, false, false, false, false, false, false, false, false, false, false, false, false, false, false, false, false, false, false, false, false, false, false, false, false, false, false, true, true, true, true] 0 (by kernel_rfl) (by kernel_rfl) (by decide) (by kernel_rfl) hS (fun K hK => ?_)
      simp only [Mix.pick]
      repeat (go_big_quiet_step (fail))
      refine wpQuiet_nil (hK _ ?_)
      clear hK K
      refine MixH.done (by kernel_rfl) ?_
      clear hS
      go_wp2_with fail
      go_ret
      exact ⟨by rw [HRES.out]; rfl, bdrX.out⟩
    · have r1 : (l.ra == 0) = false := by simpa using hr
      have hrp : 0 < l.ra := by omega
      obtain ⟨rb, hrb⟩ : ∃ rb, decide (x2 ≤ z) = rb := ⟨_, rfl⟩
      have HRES : Hid ((cAt cs i).rdy = rb) := by
        show _ = _
        unfold CL.rdy CL.held wtB
        rw [← hag2.1, hM, hl, hz2, ← hrb]
        simp only [hdS, List.length_cons]
        by_cases hzz : x2 ≤ z
        · have h2 : ¬ z < x2 := by omega
          simp [hzz, h2]
        · have h2 : z < x2 := by omega
          simp [hzz, h2, hrp]
      clear hml hm hmn hci hz hz2 hl hlw hra hag2 hln hra0 hM hv hc hx2 hx1 hml2 hr hrp hk hp hL hag hcn hq hi
      go_enter Try.func29, Try.ntmps29
      go_upto_region 1 with fail
      refine MixH.start (fun A => BovAt A B (.slice (some ⟨gl, 0, none⟩) n cl) bv sv ∧ A.cell? ⟨gl, i, none⟩ = some (.slice (some ⟨gm, mo, none⟩) ml mc) ∧ A.rangeAt ab (off + i * 5) (liA l).toList ∧ PurAt A p (.slice (some ⟨g, 0, none⟩) n tc) ∧ A.cell? ⟨g, i, none⟩ = some (.int .i64 z) ∧ A.cell? ⟨gm, mo, none⟩ = some (.int .i64 x2)) (by kernel_rfl) ?_
      obtain ⟨wA, hwA⟩ : ∃ W_, W_ = w.drew := ⟨_, rfl⟩
      have bdr : Below w.heap.size w wA := by rw [hwA]; exact (Below.refl _ _).drew
      have bdrX : Hid (Below w.heap.size w wA) := bdr
      have hS : BovAt wA B (.slice (some ⟨gl, 0, none⟩) n cl) bv sv ∧ wA.cell? ⟨gl, i, none⟩ = some (.slice (some ⟨gm, mo, none⟩) ml mc) ∧ wA.rangeAt ab (off + i * 5) (liA l).toList ∧ PurAt wA p (.slice (some ⟨g, 0, none⟩) n tc) ∧ wA.cell? ⟨g, i, none⟩ = some (.int .i64 z) ∧ wA.cell? ⟨gm, mo, none⟩ = some (.int .i64 x2) := ⟨HK.out.1.at'.below bdr, (HK.out.1.l.below bdr).cell1 bmV_len HK.out.2.2.2.2 (by unfold bmV; rw [HV.out.1]), range_bel HK.out.2.2.1 bdr, HK.out.2.1.at'.below bdr, (HK.out.2.1.t.below bdr).cell1 inL_len HK.out.2.2.2.1 rfl, (World.cell?_of_block (bdr.block _ (World.block_lt_of_cell? _ _ HV.out.2))).trans HV.out.2⟩
      rw [← hwA]
      clear hwA bdr
      refine MixH.takes [true, true, true, false, true] 34 (by kernel_rfl) (by kernel_rfl) (by decide) (by kernel_rfl) hS (fun K hK => ?_)
      simp only [Mix.pick]
      repeat (go_big_quiet_step (fail))
      refine wpQuiet_nil (hK _ ?_)
      clear hK K
      refine MixH.take 33 3 _ (.slice (some ⟨gl, 0, none⟩) n cl) rfl (by kernel_rfl) (by kernel_rfl) (by kernel_rfl) (by kernel_rfl) (yields_bks (.tmp 11) rfl ⟨B, 0, none⟩ (.slice (some ⟨gl, 0, none⟩) n cl) rfl rfl (fun A hA => hA.1.cell 0)) hS (fun a' ha => ?_)
      simp only [Act.put, List.setIfInBounds_toArray, List.set_cons_succ, List.set_cons_zero] at ha
      subst ha
      refine MixH.takes [false, false, false, false, false, true] 32 (by kernel_rfl) (by kernel_rfl) (by decide) (by kernel_rfl) hS (fun K hK => ?_)
      simp only [Mix.pick]
      repeat (go_big_quiet_step (fail))
      refine wpQuiet_nil (hK _ ?_)
      clear hK K
      refine MixH.take 31 6 _ (.slice (some ⟨gm, mo, none⟩) ml mc) rfl (by kernel_rfl) (by kernel_rfl) (by kernel_rfl) (by kernel_rfl) (yields_bki (.tmp 14) rfl ⟨gl, i, none⟩ (.slice (some ⟨gm, mo, none⟩) ml mc) rfl rfl (fun A hA => hA.2.1)) hS (fun a' ha => ?_)
      simp only [Act.put, List.setIfInBounds_toArray, List.set_cons_succ, List.set_cons_zero] at ha
      subst ha
      refine MixH.takes [false, false, false, false, false, false, false, true, true, true, true, true, true, true] 24 (by kernel_rfl) (by kernel_rfl) (by decide) (by kernel_rfl) hS (fun K hK => ?_)
      simp only [Mix.pick]
      repeat (go_big_quiet_step (fail))
      refine wpQuiet_nil (hK _ ?_)
      clear hK K
      refine MixH.take 23 14 _ (.int .i64 l.ra) rfl (by kernel_rfl) (by kernel_rfl) (by kernel_rfl) (by kernel_rfl) (yields_int (.tmp 22) rfl ⟨ab, off + i * 5 + 3, none⟩ (.int .i64 l.ra) rfl rfl (fun A hA => hA.2.2.1 3 _ rfl)) hS (fun a' ha => ?_)
      simp only [Act.put, List.setIfInBounds_toArray, List.set_cons_succ, List.set_cons_zero] at ha
      subst ha
      refine MixH.takes [false, false, false, false, false, false, false, false, false, false, false, false, false, false, false, true, true, true, true, true, false, true, false, false, true, true, true, false, true] 13 (by kernel_rfl) (by kernel_rfl) (by decide) (by kernel_rfl) hS (fun K hK => ?_)
      simp only [Mix.pick]
      repeat (go_big_quiet_step (fail))
      refine wpQuiet_nil (hK _ ?_)
      clear hK K
      refine MixH.take 12 20 _ (.slice (some ⟨g, 0, none⟩) n tc) rfl (by kernel_rfl) (by kernel_rfl) (by kernel_rfl) (by kernel_rfl) (yields_bkn (.tmp 28) rfl ⟨p, 0, none⟩ (.slice (some ⟨g, 0, none⟩) n tc) rfl rfl (fun A hA => hA.2.2.2.1.cell)) hS (fun a' ha => ?_)
      simp only [Act.put, List.setIfInBounds_toArray, List.set_cons_succ, List.set_cons_zero] at ha
      subst ha
      refine MixH.takes [false, false, false, false, false, false, false, false, false, false, false, false, false, false, false, false, false, false, false, false, false, false, true] 11 (by kernel_rfl) (by kernel_rfl) (by decide) (by kernel_rfl) hS (fun K hK => ?_)
      simp only [Mix.pick]
      repeat (go_big_quiet_step (fail))
      refine wpQuiet_nil (hK _ ?_)
      clear hK K
      refine MixH.take 10 23 _ (.int .i64 z) rfl (by kernel_rfl) (by kernel_rfl) (by kernel_rfl) (by kernel_rfl) (yields_int (.tmp 31) rfl ⟨g, i, none⟩ (.int .i64 z) rfl rfl (fun A hA => hA.2.2.2.2.1)) hS (fun a' ha => ?_)
      simp only [Act.put, List.setIfInBounds_toArray, List.set_cons_succ, List.set_cons_zero] at ha
      subst ha
      refine MixH.take 9 27 _ (.slice (some ⟨gl, 0, none⟩) n cl) rfl (by kernel_rfl) (by kernel_rfl) (by kernel_rfl) (by kernel_rfl) (yields_bks (.tmp 35) rfl ⟨B, 0, none⟩ (.slice (some ⟨gl, 0, none⟩) n cl) rfl rfl (fun A hA => hA.1.cell 0)) hS (fun a' ha => ?_)
      simp only [Act.put, List.setIfInBounds_toArray, List.set_cons_succ, List.set_cons_zero] at ha
      subst ha
      refine MixH.takes [false, false, false, false, false, false, false, false, false, false, false, false, false, false, false, false, false, false, false, false, false, false, false, false, false, false, false, false, false, true] 8 (by kernel_rfl) (by kernel_rfl) (by decide) (by kernel_rfl) hS (fun K hK => ?_)
      simp only [Mix.pick]
      repeat (go_big_quiet_step (fail))
      refine wpQuiet_nil (hK _ ?_)
      clear hK K
      refine MixH.take 7 30 _ (.slice (some ⟨gm, mo, none⟩) ml mc) rfl (by kernel_rfl) (by kernel_rfl) (by kernel_rfl) (by kernel_rfl) (yields_bki (.tmp 38) rfl ⟨gl, i, none⟩ (.slice (some ⟨gm, mo, none⟩) ml mc) rfl rfl (fun A hA => hA.2.1)) hS (fun a' ha => ?_)
      simp only [Act.put, List.setIfInBounds_toArray, List.set_cons_succ, List.set_cons_zero] at ha
      subst ha
      refine MixH.takes [false, false, false, false, false, false, false, false, false, false, false, false, false, false, false, false, false, false, false, false, false, false, false, false, false, false, false, false, false, false, false, true, true] 5 (by kernel_rfl) (by kernel_rfl) (by decide) (by kernel_rfl) hS (fun K hK => ?_)
      simp only [Mix.pick]
      repeat (go_big_quiet_step (fail))
      refine wpQuiet_nil (hK _ ?_)
      clear hK K
      refine MixH.take 4 33 _ (.int .i64 x2) rfl (by kernel_rfl) (by kernel_rfl) (by kernel_rfl) (by kernel_rfl) (yields_int (.tmp 41) rfl ⟨gm, mo, none⟩ (.int .i64 x2) rfl rfl (fun A hA => hA.2.2.2.2.2)) hS (fun a' ha => ?_)
      simp only [Act.put, List.setIfInBounds_toArray, List.set_cons_succ, List.set_cons_zero] at ha
      subst ha
      refine MixH.takes [false, false, false, false, false, false, false, false, false, false, false, false, false, false, false, false, false, false, false, false, false, false, false, false, false, false, false, false, false, false, false, false, false, false, true, true, true, true] 0 (by kernel_rfl) (by kernel_rfl) (by decide) (by kernel_rfl) hS (fun K hK => ?_)
      simp only [Mix.pick]
      repeat (go_big_quiet_step (fail))
      refine wpQuiet_nil (hK _ ?_)
      clear hK K
      refine MixH.done (by kernel_rfl) ?_
      clear hS
      go_wp2_with fail
      go_ret
      exact ⟨by rw [HRES.out]; first | rfl | rw [hrb] | rw [← hrb], bdrX.out⟩
end Go.Proofs.Ytclkcpdghpaboaa
