/-
  weirref4: number, hex.
-/
/-
  weirref4: dots, zeros, mapped.
-/
/-
  weirref4: PrintIP.
-/
/-
  weirref4: PrintPrefix, PrintMac.
-/
/-
  weirlaw4: printed.
-/
import Derived.Test.YteldiggaooeeeaaGreatDoorAdSta
import Derived.Test.YteldiggaooeeeaaGreatDoorZg
import Derived.Test.YteldiggaooeeeaaGreatDoorHPair
import Derived.Test.YteldiggaooeeeaaGreatDoorAdV1
import Derived.Test.YteldiggaooeeeaaGreatDoorB4r
import Derived.Test.YteldiggaooeeeaaGreatDoorB4x
namespace Go.Proofs.YteldiggaooeeeaaGreatDoor
open Go.RowKit Go.Maps

theorem conv_tx (w : World) (a : Option Addr) (cap : Nat) (l : List Nat) (hs : Seg .u8 w a (toI l)) (h256 : ∀ x ∈ l, x < 256) (n : Nat) (hn : n = l.length) :
    (convert 50 9 (.slice a n cap)).run Tryz.prog w = .ok (.string (txB l)) w := by
  subst hn
  exact conv_any w a cap l hs h256
/-- a short slice of bytes, laid a while ago -/
theorem conv_old (w : World) (l : List Nat) (h256 : ∀ x ∈ l, x < 256) (n : Nat) (hn : n = l.length) (g : Nat) (hg : w.heap.size = g) (W : World) (hW : W = w.alloc (.cells (l.map fun c => Value.int .u8 (c : Nat)).toArray 5)) :
    ∀ A, Below W.heap.size W A → (convert 50 9 (.slice (some ⟨g, 0, none⟩) n n)).run Tryz.prog A = .ok (.string (txB l)) A := by
  intro A hA
  refine conv_tx _ _ _ l ?_ h256 n hn
  refine .inr ⟨g, 0, rfl, fun i hi => ?_⟩
  rw [toI_len] at hi
  rw [toI_getD, hA.cell (by rw [hW, World.size_alloc]; show g < _; omega), hW, ← hg, Nat.zero_add, World.cell?_alloc_mark]
  simp [hi]
theorem yields_sBv {ops : Array Oper} {S : World → Prop} {o : Oper} {a : Act} (x y : Operand) (ho : o.op = .index 9 x y) (k : IntKind) (s : ByteArray) (p : Nat) (z : Int) (u : Nat) (hu : sB s p = u) (hx : a.eval x = .string s) (hy : a.eval y = .int k z) (hz : z = (p : Int)) (hp : p < s.size) (hw : Region.wanted o (yielded ops a.tmps) = true) : YieldsIf Tryz.prog ops S o (.int .u8 (u : Nat)) a := by
  subst hu
  exact yields_sBu x y ho k s p z hx hy hz hp hw
set_option maxHeartbeats 1600000 in
set_option maxRecDepth 100000 in
theorem number_step (n : Nat) (w : World) (L : List Nat) (h1 : 10 ≤ n) (h2 : n < 1000) (hL : L.length ≤ 10) (hrec : ∀ A, Calls Tryz.prog 89 #[.int .i64 (n / 10 : Nat)] A fun r w' => r = .returned (.string (txB L)) ∧ Below A.heap.size A w') : Calls Tryz.prog 89 #[.int .i64 (n : Nat)] w fun r w' => r = .returned (.string (txB (L ++ [48 + n % 10]))) ∧ Below w.heap.size w w' := by
  obtain ⟨d, hdd⟩ : ∃ d, d = n % 10 := ⟨_, rfl⟩
  obtain ⟨q, hq⟩ : ∃ q, q = n / 10 := ⟨_, rfl⟩
  obtain ⟨u, hu⟩ : ∃ u, u = 48 + n % 10 := ⟨_, rfl⟩
  rw [← hu]
  rw [← hq] at hrec
  have t1 : Int.tdiv (n : Int) 10 = (q : Int) := by rw [Int.tdiv_eq_ediv_of_nonneg (by omega)]; omega
  have t2 : Int.tmod (n : Int) 10 = (d : Int) := by rw [Int.tmod_eq_emod_of_nonneg (by omega)]; omega
  have t1' : (n : Int) / 10 = (q : Int) := by omega
  have t2' : (n : Int) % 10 = (d : Int) := by omega
  have i1 : IntKind.i64.wrap (q : Int) = (q : Int) := i64_s _ (by omega) (by omega)
  have i2 : IntKind.i64.wrap (d : Int) = (d : Int) := i64_s _ (by omega) (by omega)
  have p1 : decide ((n : Int) < 10) = false := decide_eq_false (by omega)
  have p2 : decide (n < 10) = false := decide_eq_false (by omega)
  have p3 : ¬ (n : Int) < 10 := by omega
  have HD : Hid (d < 10) := by show d < 10; omega
  have HU : Hid (u < 256) := by show u < 256; rw [hu, ← hdd]; omega
  have HR : Hid (∀ A, Calls Tryz.prog 89 #[.int .i64 (q : Nat)] A fun r w' => r = .returned (.string (txB L)) ∧ Below A.heap.size A w') := hrec
  have HLL : Hid (L.length ≤ 10) := hL
  have s1 : IntKind.i64.wrap (48 + (d : Int)) = 48 + (d : Int) := i64_s _ (by omega) (by omega)
  have s2 : IntKind.u8.wrap (48 + (d : Int)) = (u : Int) := by rw [u8_s _ (by omega) (by omega), hu, ← hdd]; omega
  clear hdd hq hu hrec hL
  go_enter Tryz.func89, Tryz.ntmps89
  go_upto_region 3 with fail
  refine MixH.start (fun A => Below w.heap.size w A) (by kernel_rfl) ?_
  obtain ⟨wA, hwA⟩ : ∃ W_, W_ = w.drew := ⟨_, rfl⟩
  have bdr : Below w.heap.size w wA := by rw [hwA]; exact (Below.refl _ _).drew
  have hS : Below w.heap.size w wA := bdr
  rw [← hwA]
  clear hwA bdr
  refine MixH.takes [true, true, false, true, true, true, true] 5 (by kernel_rfl) (by kernel_rfl) (by decide) (by kernel_rfl) hS (fun K hK => ?_)
  simp only [Mix.pick]
  repeat (go_big_quiet_step (fail))
  refine wpQuiet_nil (hK _ ?_)
  clear hK K
  refine MixH.pair [false, false, true] [false, false, false, false, false, false, false, true] 4 2 7 _ _ rfl rfl rfl rfl (by kernel_rfl) (by kernel_rfl) (fun K hK => ?_) (fun K hK => ?_)
  · simp only [Mix.pick]
    go_wp2_with fail
    refine Calls.mono (HR.out wA) ?_
    rintro e cwA ⟨rfl, hb⟩
    have HBcwA : Hid (Below wA.heap.size wA cwA) := hb
    have hS : Below w.heap.size w cwA := hS.trans (hb.mono hS.size)
    clear hb
    go_wp2_with fail
    refine ⟨rfl, hK _ _ hS ?_⟩
    clear hK K
    refine MixH.one [false, false, false, false, false, false, false, true] 3 7 _ rfl rfl (by kernel_rfl) (by kernel_rfl) (fun K hK => ?_)
    simp only [Mix.pick]
    go_wp2_with fail
    obtain ⟨bcwA, hbcwA⟩ : ∃ W_, W_ = cwA.alloc (.cells #[.int .u8 (u : Nat)] 5) := ⟨_, rfl⟩
    obtain ⟨gbcwA, hgbcwA⟩ : ∃ g_, cwA.heap.size = g_ := ⟨_, rfl⟩
    have HKbcwA : Hid (∀ A, Below bcwA.heap.size bcwA A → (convert 50 9 (.slice (some ⟨gbcwA, 0, none⟩) 1 1)).run Tryz.prog A = .ok (.string (txB [u])) A) := conv_old cwA [u] (fun c hc => by simp at hc; subst hc; exact HU.out) 1 rfl gbcwA hgbcwA bcwA hbcwA
    have hS : Below w.heap.size w bcwA := by rw [hbcwA]; exact hS.alloc hS.size _
    rw [← hbcwA]
    (try rw [hgbcwA])
    clear hbcwA hgbcwA
    refine ⟨rfl, hK _ _ hS ?_⟩
    clear hK K
    refine MixH.one [false, false, false, false, false, false, false, false, true] 2 8 _ rfl rfl (by kernel_rfl) (by kernel_rfl) (fun K hK => ?_)
    simp only [Mix.pick]
    have kc := HKbcwA.out bcwA (Below.refl _ _)
    go_wp2_with fail
    clear kc
    refine ⟨rfl, hK _ _ hS ?_⟩
    clear hK K
    refine MixH.take 1 9 _ (.string (txB (L ++ [u]))) rfl (by kernel_rfl) (by kernel_rfl) (by kernel_rfl) (by kernel_rfl) (yields_cat (.tmp 12) (.tmp 18) rfl L [u] _ rfl rfl rfl rfl (by have := HLL.out; simp; omega)) hS (fun a' ha => ?_)
    simp only [Act.put, List.setIfInBounds_toArray, List.set_cons_succ, List.set_cons_zero] at ha
    subst ha
    refine MixH.takes [false, false, false, false, false, false, false, false, false, false, true] 0 (by kernel_rfl) (by kernel_rfl) (by decide) (by kernel_rfl) hS (fun K hK => ?_)
    simp only [Mix.pick]
    repeat (go_big_quiet_step (fail))
    refine wpQuiet_nil (hK _ ?_)
    clear hK K
    refine MixH.done (by kernel_rfl) ?_
    have HS2 : Hid (Below w.heap.size w bcwA) := hS
    clear hS
    go_wp2
    go_ret
    exact ⟨rfl, HS2.out⟩
  · simp only [Mix.pick]
    go_wp2_with fail
    obtain ⟨bwA, hbwA⟩ : ∃ W_, W_ = wA.alloc (.cells #[.int .u8 (u : Nat)] 5) := ⟨_, rfl⟩
    obtain ⟨gbwA, hgbwA⟩ : ∃ g_, wA.heap.size = g_ := ⟨_, rfl⟩
    have HKbwA : Hid (∀ A, Below bwA.heap.size bwA A → (convert 50 9 (.slice (some ⟨gbwA, 0, none⟩) 1 1)).run Tryz.prog A = .ok (.string (txB [u])) A) := conv_old wA [u] (fun c hc => by simp at hc; subst hc; exact HU.out) 1 rfl gbwA hgbwA bwA hbwA
    have hS : Below w.heap.size w bwA := by rw [hbwA]; exact hS.alloc hS.size _
    rw [← hbwA]
    (try rw [hgbwA])
    clear hbwA hgbwA
    refine ⟨rfl, hK _ _ hS ?_⟩
    clear hK K
    refine MixH.pair [false, false, true] [false, false, false, false, false, false, false, false, true] 3 2 8 _ _ rfl rfl rfl rfl (by kernel_rfl) (by kernel_rfl) (fun K hK => ?_) (fun K hK => ?_)
    · simp only [Mix.pick]
      go_wp2_with fail
      refine Calls.mono (HR.out bwA) ?_
      rintro e cbwA ⟨rfl, hb⟩
      have HBcbwA : Hid (Below bwA.heap.size bwA cbwA) := hb
      have hS : Below w.heap.size w cbwA := hS.trans (hb.mono hS.size)
      clear hb
      go_wp2_with fail
      refine ⟨rfl, hK _ _ hS ?_⟩
      clear hK K
      refine MixH.one [false, false, false, false, false, false, false, false, true] 2 8 _ rfl rfl (by kernel_rfl) (by kernel_rfl) (fun K hK => ?_)
      simp only [Mix.pick]
      have kc := HKbwA.out cbwA (HBcbwA.out)
      go_wp2_with fail
      clear kc
      refine ⟨rfl, hK _ _ hS ?_⟩
      clear hK K
      refine MixH.take 1 9 _ (.string (txB (L ++ [u]))) rfl (by kernel_rfl) (by kernel_rfl) (by kernel_rfl) (by kernel_rfl) (yields_cat (.tmp 12) (.tmp 18) rfl L [u] _ rfl rfl rfl rfl (by have := HLL.out; simp; omega)) hS (fun a' ha => ?_)
      simp only [Act.put, List.setIfInBounds_toArray, List.set_cons_succ, List.set_cons_zero] at ha
      subst ha
      refine MixH.takes [false, false, false, false, false, false, false, false, false, false, true] 0 (by kernel_rfl) (by kernel_rfl) (by decide) (by kernel_rfl) hS (fun K hK => ?_)
      simp only [Mix.pick]
      repeat (go_big_quiet_step (fail))
      refine wpQuiet_nil (hK _ ?_)
      clear hK K
      refine MixH.done (by kernel_rfl) ?_
      have HS2 : Hid (Below w.heap.size w cbwA) := hS
      clear hS
      go_wp2
      go_ret
      exact ⟨rfl, HS2.out⟩
    · simp only [Mix.pick]
      have kc := HKbwA.out bwA (Below.refl _ _)
      go_wp2_with fail
      clear kc
      refine ⟨rfl, hK _ _ hS ?_⟩
      clear hK K
      refine MixH.one [false, false, true] 2 2 _ rfl rfl (by kernel_rfl) (by kernel_rfl) (fun K hK => ?_)
      simp only [Mix.pick]
      go_wp2_with fail
      refine Calls.mono (HR.out bwA) ?_
      rintro e cbwA ⟨rfl, hb⟩
      have HBcbwA : Hid (Below bwA.heap.size bwA cbwA) := hb
      have hS : Below w.heap.size w cbwA := hS.trans (hb.mono hS.size)
      clear hb
      go_wp2_with fail
      refine ⟨rfl, hK _ _ hS ?_⟩
      clear hK K
      refine MixH.take 1 9 _ (.string (txB (L ++ [u]))) rfl (by kernel_rfl) (by kernel_rfl) (by kernel_rfl) (by kernel_rfl) (yields_cat (.tmp 12) (.tmp 18) rfl L [u] _ rfl rfl rfl rfl (by have := HLL.out; simp; omega)) hS (fun a' ha => ?_)
      simp only [Act.put, List.setIfInBounds_toArray, List.set_cons_succ, List.set_cons_zero] at ha
      subst ha
      refine MixH.takes [false, false, false, false, false, false, false, false, false, false, true] 0 (by kernel_rfl) (by kernel_rfl) (by decide) (by kernel_rfl) hS (fun K hK => ?_)
      simp only [Mix.pick]
      repeat (go_big_quiet_step (fail))
      refine wpQuiet_nil (hK _ ?_)
      clear hK K
      refine MixH.done (by kernel_rfl) ?_
      have HS2 : Hid (Below w.heap.size w cbwA) := hS
      clear hS
      go_wp2
      go_ret
      exact ⟨rfl, HS2.out⟩
set_option maxHeartbeats 1600000 in
set_option maxRecDepth 100000 in
theorem hex_step (n : Nat) (w : World) (L : List Nat) (h1 : 16 ≤ n) (h2 : n < 65536) (hL : L.length ≤ 10) (hrec : ∀ A, Calls Tryz.prog 88 #[.int .i64 (n / 16 : Nat)] A fun r w' => r = .returned (.string (txB L)) ∧ Below A.heap.size A w') : Calls Tryz.prog 88 #[.int .i64 (n : Nat)] w fun r w' => r = .returned (.string (txB (L ++ [hd (n % 16)]))) ∧ Below w.heap.size w w' := by
  obtain ⟨d, hdd⟩ : ∃ d, d = n % 16 := ⟨_, rfl⟩
  obtain ⟨q, hq⟩ : ∃ q, q = n / 16 := ⟨_, rfl⟩
  obtain ⟨u, hu⟩ : ∃ u, u = hd (n % 16) := ⟨_, rfl⟩
  rw [← hu]
  rw [← hq] at hrec
  have t1 : Int.tdiv (n : Int) 16 = (q : Int) := by rw [Int.tdiv_eq_ediv_of_nonneg (by omega)]; omega
  have t2 : Int.tmod (n : Int) 16 = (d : Int) := by rw [Int.tmod_eq_emod_of_nonneg (by omega)]; omega
  have t1' : (n : Int) / 16 = (q : Int) := by omega
  have t2' : (n : Int) % 16 = (d : Int) := by omega
  have i1 : IntKind.i64.wrap (q : Int) = (q : Int) := i64_s _ (by omega) (by omega)
  have i2 : IntKind.i64.wrap (d : Int) = (d : Int) := i64_s _ (by omega) (by omega)
  have p1 : decide ((n : Int) < 16) = false := decide_eq_false (by omega)
  have p2 : decide (n < 16) = false := decide_eq_false (by omega)
  have p3 : ¬ (n : Int) < 16 := by omega
  have HD : Hid (d < 16) := by show d < 16; omega
  have HU : Hid (u < 256) := by show u < 256; rw [hu]; exact hd_lt (by omega)
  have HR : Hid (∀ A, Calls Tryz.prog 88 #[.int .i64 (q : Nat)] A fun r w' => r = .returned (.string (txB L)) ∧ Below A.heap.size A w') := hrec
  have HLL : Hid (L.length ≤ 10) := hL
  have HSB : Hid (sB dgM d = u) := by show sB dgM d = u; rw [hu, ← hdd]; exact dgM_at (by omega)

  clear hdd hq hu hrec hL
  go_enter Tryz.func88, Tryz.ntmps88
  go_upto_region 3 with fail
  refine MixH.start (fun A => Below w.heap.size w A) (by kernel_rfl) ?_
  obtain ⟨wA, hwA⟩ : ∃ W_, W_ = w.drew := ⟨_, rfl⟩
  have bdr : Below w.heap.size w wA := by rw [hwA]; exact (Below.refl _ _).drew
  have hS : Below w.heap.size w wA := bdr
  rw [← hwA]
  clear hwA bdr
  refine MixH.takes [true, true, false, true, true] 6 (by kernel_rfl) (by kernel_rfl) (by decide) (by kernel_rfl) hS (fun K hK => ?_)
  simp only [Mix.pick]
  repeat (go_big_quiet_step (fail))
  refine wpQuiet_nil (hK _ ?_)
  clear hK K
  refine MixH.take 5 5 _ (.int .u8 (u : Nat)) rfl (by kernel_rfl) (by kernel_rfl) (by kernel_rfl) (by kernel_rfl) (yields_sBv (.const (.string dgM)) (.tmp 13) rfl .i64 dgM d (d : Int) u HSB.out rfl rfl rfl (by have := HD.out; show d < 16; omega) rfl) hS (fun a' ha => ?_)
  simp only [Act.put, List.setIfInBounds_toArray, List.set_cons_succ, List.set_cons_zero] at ha
  subst ha
  refine MixH.pair [false, false, true] [false, false, false, false, false, false, true] 4 2 6 _ _ rfl rfl rfl rfl (by kernel_rfl) (by kernel_rfl) (fun K hK => ?_) (fun K hK => ?_)
  · simp only [Mix.pick]
    go_wp2_with fail
    refine Calls.mono (HR.out wA) ?_
    rintro e cwA ⟨rfl, hb⟩
    have HBcwA : Hid (Below wA.heap.size wA cwA) := hb
    have hS : Below w.heap.size w cwA := hS.trans (hb.mono hS.size)
    clear hb
    go_wp2_with fail
    refine ⟨rfl, hK _ _ hS ?_⟩
    clear hK K
    refine MixH.one [false, false, false, false, false, false, true] 3 6 _ rfl rfl (by kernel_rfl) (by kernel_rfl) (fun K hK => ?_)
    simp only [Mix.pick]
    go_wp2_with fail
    obtain ⟨bcwA, hbcwA⟩ : ∃ W_, W_ = cwA.alloc (.cells #[.int .u8 (u : Nat)] 5) := ⟨_, rfl⟩
    obtain ⟨gbcwA, hgbcwA⟩ : ∃ g_, cwA.heap.size = g_ := ⟨_, rfl⟩
    have HKbcwA : Hid (∀ A, Below bcwA.heap.size bcwA A → (convert 50 9 (.slice (some ⟨gbcwA, 0, none⟩) 1 1)).run Tryz.prog A = .ok (.string (txB [u])) A) := conv_old cwA [u] (fun c hc => by simp at hc; subst hc; exact HU.out) 1 rfl gbcwA hgbcwA bcwA hbcwA
    have hS : Below w.heap.size w bcwA := by rw [hbcwA]; exact hS.alloc hS.size _
    rw [← hbcwA]
    (try rw [hgbcwA])
    clear hbcwA hgbcwA
    refine ⟨rfl, hK _ _ hS ?_⟩
    clear hK K
    refine MixH.one [false, false, false, false, false, false, false, true] 2 7 _ rfl rfl (by kernel_rfl) (by kernel_rfl) (fun K hK => ?_)
    simp only [Mix.pick]
    have kc := HKbcwA.out bcwA (Below.refl _ _)
    go_wp2_with fail
    clear kc
    refine ⟨rfl, hK _ _ hS ?_⟩
    clear hK K
    refine MixH.take 1 8 _ (.string (txB (L ++ [u]))) rfl (by kernel_rfl) (by kernel_rfl) (by kernel_rfl) (by kernel_rfl) (yields_cat (.tmp 11) (.tmp 16) rfl L [u] _ rfl rfl rfl rfl (by have := HLL.out; simp; omega)) hS (fun a' ha => ?_)
    simp only [Act.put, List.setIfInBounds_toArray, List.set_cons_succ, List.set_cons_zero] at ha
    subst ha
    refine MixH.takes [false, false, false, false, false, false, false, false, false, true] 0 (by kernel_rfl) (by kernel_rfl) (by decide) (by kernel_rfl) hS (fun K hK => ?_)
    simp only [Mix.pick]
    repeat (go_big_quiet_step (fail))
    refine wpQuiet_nil (hK _ ?_)
    clear hK K
    refine MixH.done (by kernel_rfl) ?_
    have HS2 : Hid (Below w.heap.size w bcwA) := hS
    clear hS
    go_wp2
    go_ret
    exact ⟨rfl, HS2.out⟩
  · simp only [Mix.pick]
    go_wp2_with fail
    obtain ⟨bwA, hbwA⟩ : ∃ W_, W_ = wA.alloc (.cells #[.int .u8 (u : Nat)] 5) := ⟨_, rfl⟩
    obtain ⟨gbwA, hgbwA⟩ : ∃ g_, wA.heap.size = g_ := ⟨_, rfl⟩
    have HKbwA : Hid (∀ A, Below bwA.heap.size bwA A → (convert 50 9 (.slice (some ⟨gbwA, 0, none⟩) 1 1)).run Tryz.prog A = .ok (.string (txB [u])) A) := conv_old wA [u] (fun c hc => by simp at hc; subst hc; exact HU.out) 1 rfl gbwA hgbwA bwA hbwA
    have hS : Below w.heap.size w bwA := by rw [hbwA]; exact hS.alloc hS.size _
    rw [← hbwA]
    (try rw [hgbwA])
    clear hbwA hgbwA
    refine ⟨rfl, hK _ _ hS ?_⟩
    clear hK K
    refine MixH.pair [false, false, true] [false, false, false, false, false, false, false, true] 3 2 7 _ _ rfl rfl rfl rfl (by kernel_rfl) (by kernel_rfl) (fun K hK => ?_) (fun K hK => ?_)
    · simp only [Mix.pick]
      go_wp2_with fail
      refine Calls.mono (HR.out bwA) ?_
      rintro e cbwA ⟨rfl, hb⟩
      have HBcbwA : Hid (Below bwA.heap.size bwA cbwA) := hb
      have hS : Below w.heap.size w cbwA := hS.trans (hb.mono hS.size)
      clear hb
      go_wp2_with fail
      refine ⟨rfl, hK _ _ hS ?_⟩
      clear hK K
      refine MixH.one [false, false, false, false, false, false, false, true] 2 7 _ rfl rfl (by kernel_rfl) (by kernel_rfl) (fun K hK => ?_)
      simp only [Mix.pick]
      have kc := HKbwA.out cbwA (HBcbwA.out)
      go_wp2_with fail
      clear kc
      refine ⟨rfl, hK _ _ hS ?_⟩
      clear hK K
      refine MixH.take 1 8 _ (.string (txB (L ++ [u]))) rfl (by kernel_rfl) (by kernel_rfl) (by kernel_rfl) (by kernel_rfl) (yields_cat (.tmp 11) (.tmp 16) rfl L [u] _ rfl rfl rfl rfl (by have := HLL.out; simp; omega)) hS (fun a' ha => ?_)
      simp only [Act.put, List.setIfInBounds_toArray, List.set_cons_succ, List.set_cons_zero] at ha
      subst ha
      refine MixH.takes [false, false, false, false, false, false, false, false, false, true] 0 (by kernel_rfl) (by kernel_rfl) (by decide) (by kernel_rfl) hS (fun K hK => ?_)
      simp only [Mix.pick]
      repeat (go_big_quiet_step (fail))
      refine wpQuiet_nil (hK _ ?_)
      clear hK K
      refine MixH.done (by kernel_rfl) ?_
      have HS2 : Hid (Below w.heap.size w cbwA) := hS
      clear hS
      go_wp2
      go_ret
      exact ⟨rfl, HS2.out⟩
    · simp only [Mix.pick]
      have kc := HKbwA.out bwA (Below.refl _ _)
      go_wp2_with fail
      clear kc
      refine ⟨rfl, hK _ _ hS ?_⟩
      clear hK K
      refine MixH.one [false, false, true] 2 2 _ rfl rfl (by kernel_rfl) (by kernel_rfl) (fun K hK => ?_)
      simp only [Mix.pick]
      go_wp2_with fail
      refine Calls.mono (HR.out bwA) ?_
      rintro e cbwA ⟨rfl, hb⟩
      have HBcbwA : Hid (Below bwA.heap.size bwA cbwA) := hb
      have hS : Below w.heap.size w cbwA := hS.trans (hb.mono hS.size)
      clear hb
      go_wp2_with fail
      refine ⟨rfl, hK _ _ hS ?_⟩
      clear hK K
      refine MixH.take 1 8 _ (.string (txB (L ++ [u]))) rfl (by kernel_rfl) (by kernel_rfl) (by kernel_rfl) (by kernel_rfl) (yields_cat (.tmp 11) (.tmp 16) rfl L [u] _ rfl rfl rfl rfl (by have := HLL.out; simp; omega)) hS (fun a' ha => ?_)
      simp only [Act.put, List.setIfInBounds_toArray, List.set_cons_succ, List.set_cons_zero] at ha
      subst ha
      refine MixH.takes [false, false, false, false, false, false, false, false, false, true] 0 (by kernel_rfl) (by kernel_rfl) (by decide) (by kernel_rfl) hS (fun K hK => ?_)
      simp only [Mix.pick]
      repeat (go_big_quiet_step (fail))
      refine wpQuiet_nil (hK _ ?_)
      clear hK K
      refine MixH.done (by kernel_rfl) ?_
      have HS2 : Hid (Below w.heap.size w cbwA) := hS
      clear hS
      go_wp2
      go_ret
      exact ⟨rfl, HS2.out⟩
set_option maxHeartbeats 1600000 in
set_option maxRecDepth 100000 in
theorem number_one (n : Nat) (w : World) (hn : n < 10) : Calls Tryz.prog 89 #[.int .i64 (n : Nat)] w fun r w' => r = .returned (.string (txB [48 + n])) ∧ Below w.heap.size w w' := by
  obtain ⟨u, hu⟩ : ∃ u, u = 48 + n := ⟨_, rfl⟩
  have s1 : IntKind.i64.wrap (48 + (n : Int)) = 48 + (n : Int) := i64_s _ (by omega) (by omega)
  have s2 : IntKind.u8.wrap (48 + (n : Int)) = (u : Int) := by rw [u8_s _ (by omega) (by omega), hu]; omega
  have p1 : decide ((n : Int) < 10) = true := decide_eq_true (by omega)
  have p2 : decide (n < 10) = true := decide_eq_true (by omega)
  have p3 : (n : Int) < 10 := by omega
  have kc := conv_old w [u] (fun c hc => by simp at hc; omega) 1 rfl w.heap.size rfl _ rfl _ (Below.refl _ _)
  rw [show ([u].map fun c => Value.int .u8 (c : Nat)).toArray = #[.int .u8 (u : Nat)] from rfl] at kc
  rw [← hu]
  clear hu
  go_enter Tryz.func89, Tryz.ntmps89
  go_wp2
  go_ret
  exact ⟨rfl, (Below.refl _ _).alloc (Nat.le_refl _) _⟩
theorem num3_any (n : Nat) (w : World) (hn : n < 1000) : Calls Tryz.prog 89 #[.int .i64 (n : Nat)] w fun r w' => r = .returned (.string (txB (dec3 n))) ∧ Below w.heap.size w w' := by
  unfold dec3
  by_cases h1 : n < 10
  · rw [if_pos h1]; exact number_one n w h1
  · rw [if_neg h1]
    have two : ∀ (m : Nat) (A : World), 10 ≤ m → m < 100 → Calls Tryz.prog 89 #[.int .i64 (m : Nat)] A fun r w' => r = .returned (.string (txB [48 + m / 10, 48 + m % 10])) ∧ Below A.heap.size A w' := fun m A h1 h2 => number_step m A [48 + m / 10] h1 (by omega) (by simp) (fun A => number_one (m / 10) A (by omega))
    by_cases h2 : n < 100
    · rw [if_pos h2]; exact two n w (by omega) h2
    · rw [if_neg h2]
      have h := number_step n w [48 + n / 10 / 10, 48 + n / 10 % 10] (by omega) hn (by simp) (fun A => two (n / 10) A (by omega) (by omega))
      rw [show n / 10 / 10 = n / 100 by omega] at h
      exact h
set_option maxHeartbeats 1600000 in
set_option maxRecDepth 100000 in
theorem hex_one (n : Nat) (w : World) (hn : n < 16) : Calls Tryz.prog 88 #[.int .i64 (n : Nat)] w fun r w' => r = .returned (.string (txB [hd n])) ∧ Below w.heap.size w w' := by
  have HSB : Hid (sB dgM n = hd n ∧ n < 16) := ⟨dgM_at hn, hn⟩
  have p1 : decide ((n : Int) < 16) = true := decide_eq_true (by omega)
  have p2 : decide (n < 16) = true := decide_eq_true (by omega)
  have p3 : (n : Int) < 16 := by omega
  have kc := conv_old w [sB dgM n] (fun c hc => by simp at hc; rw [hc]; exact sB_lt _ _) 1 rfl w.heap.size rfl _ rfl _ (Below.refl _ _)
  rw [show ([sB dgM n].map fun c => Value.int .u8 (c : Nat)).toArray = #[.int .u8 (sB dgM n : Nat)] from rfl] at kc
  go_enter Tryz.func88, Tryz.ntmps88
  go_wp2_with (refine wpList_sBu (.const (.string dgM)) (.tmp 5) rfl .i64 dgM n (n : Int) rfl rfl rfl HSB.out.2 rfl ?_)
  go_ret
  exact ⟨by rw [← HSB.out.1]; rfl, (Below.refl _ _).alloc (Nat.le_refl _) _⟩
theorem hex_any (n : Nat) (w : World) (hn : n < 65536) : Calls Tryz.prog 88 #[.int .i64 (n : Nat)] w fun r w' => r = .returned (.string (txB (hexL n))) ∧ Below w.heap.size w w' := by
  unfold hexL
  by_cases h1 : n < 16
  · rw [if_pos h1]; exact hex_one n w h1
  · rw [if_neg h1]
    have two : ∀ (m : Nat) (A : World), 16 ≤ m → m < 256 → Calls Tryz.prog 88 #[.int .i64 (m : Nat)] A fun r w' => r = .returned (.string (txB [hd (m / 16), hd (m % 16)])) ∧ Below A.heap.size A w' := fun m A h1 h2 => hex_step m A [hd (m / 16)] h1 (by omega) (by simp) (fun A => hex_one (m / 16) A (by omega))
    by_cases h2 : n < 256
    · rw [if_pos h2]; exact two n w (by omega) h2
    · rw [if_neg h2]
      have three : ∀ (m : Nat) (A : World), 256 ≤ m → m < 4096 → Calls Tryz.prog 88 #[.int .i64 (m : Nat)] A fun r w' => r = .returned (.string (txB [hd (m / 256), hd (m / 16 % 16), hd (m % 16)])) ∧ Below A.heap.size A w' := fun m A h1 h2 => by
        have h := hex_step m A [hd (m / 16 / 16), hd (m / 16 % 16)] (by omega) (by omega) (by simp) (fun A => two (m / 16) A (by omega) (by omega))
        rw [show m / 16 / 16 = m / 256 by omega] at h
        exact h
      by_cases h3 : n < 4096
      · rw [if_pos h3]; exact three n w (by omega) h3
      · rw [if_neg h3]
        have h := hex_step n w [hd (n / 16 / 256), hd (n / 16 / 16 % 16), hd (n / 16 % 16)] (by omega) hn (by simp) (fun A => three (n / 16) A (by omega) (by omega))
        rw [show n / 16 / 256 = n / 4096 by omega, show n / 16 / 16 = n / 256 by omega] at h
        exact h
end Go.Proofs.YteldiggaooeeeaaGreatDoor
namespace Go.Proofs.YteldiggaooeeeaaGreatDoor
open Go.RowKit Go.Maps

theorem Ary_all {w : World} {O : Nat} {x : Nat → Nat} (h : AryAt w O x) : w.rangeAt O 0 (arCells x).toList := by
  intro j v hv
  have hl : j < 16 := (List.getElem?_eq_some_iff.1 hv).1
  rw [Nat.zero_add, h.byte j hl]
  rw [← arC_byte x j hl, ← Array.getElem?_toList]
  exact hv
set_option maxHeartbeats 1600000 in
set_option maxRecDepth 100000 in
theorem dotsR_any (x : Nat → Nat) (i : Nat) (w : World) (hx : ∀ i, i < 16 → x i < 256) (hi : i ≤ 12) : Calls Tryz.prog 85 #[.agg (arCells x), .int .i64 (i : Nat)] w fun r w' => r = .returned (.string (txB (dots (x i) (x (i + 1)) (x (i + 2)) (x (i + 3))))) ∧ Below w.heap.size w w' := by
  have z1 : IntKind.i64.wrap ((i : Int) + 1) = (i : Int) + 1 := i64_s _ (by omega) (by omega)
  have y1 : (i : Int) + 1 < 16 := by omega
  have v1 : (0 : Int) ≤ (i : Int) + 1 := by omega
  have z2 : IntKind.i64.wrap ((i : Int) + 2) = (i : Int) + 2 := i64_s _ (by omega) (by omega)
  have y2 : (i : Int) + 2 < 16 := by omega
  have v2 : (0 : Int) ≤ (i : Int) + 2 := by omega
  have z3 : IntKind.i64.wrap ((i : Int) + 3) = (i : Int) + 3 := i64_s _ (by omega) (by omega)
  have y3 : (i : Int) + 3 < 16 := by omega
  have v3 : (0 : Int) ≤ (i : Int) + 3 := by omega
  have y0 : (i : Int) < 16 := by omega
  have v0 : (0 : Int) ≤ (i : Int) := by omega
  have u0 : IntKind.i64.wrap ((x (i) : Nat) : Int) = ((x (i) : Nat) : Int) := i64_s _ (by omega) (by have := hx (i) (by omega); omega)
  have u1 : IntKind.i64.wrap ((x (i + 1) : Nat) : Int) = ((x (i + 1) : Nat) : Int) := i64_s _ (by omega) (by have := hx (i + 1) (by omega); omega)
  have u2 : IntKind.i64.wrap ((x (i + 2) : Nat) : Int) = ((x (i + 2) : Nat) : Int) := i64_s _ (by omega) (by have := hx (i + 2) (by omega); omega)
  have u3 : IntKind.i64.wrap ((x (i + 3) : Nat) : Int) = ((x (i + 3) : Nat) : Int) := i64_s _ (by omega) (by have := hx (i + 3) (by omega); omega)
  have HX : Hid (∀ i, i < 16 → x i < 256) := hx
  have HI : Hid (i ≤ 12) := hi
  clear hx hi
  have hb := ar_new w x
  have bel : Below w.heap.size w (w.alloc (.cells (arCells x) 26)) := (Below.refl _ _).alloc (Nat.le_refl _) _
  obtain ⟨CX, hC⟩ : ∃ C, C = arCells x := ⟨_, rfl⟩
  obtain ⟨W, hW⟩ : ∃ W_, W_ = w.alloc (.cells (arCells x) 26) := ⟨_, rfl⟩
  rw [← hW] at hb bel
  obtain ⟨B, hB⟩ : ∃ B, B = w.heap.size := ⟨_, rfl⟩
  rw [← hB] at hb
  have HBX : Hid (AryAt W B x ∧ Below w.heap.size w W) := ⟨hb, bel⟩
  rw [← hC] at hW ⊢
  have HOX : Hid (w.heap.size = B) := hB.symm
  have HWX : Hid (w.alloc (.cells CX 26) = W) := hW.symm
  clear hb hW hB hC bel
  go_enter Tryz.func85, Tryz.ntmps85
  go_upto_region 1 with fail
  rw [HOX.out, HWX.out]
  refine MixH.start (fun A => AryAt A B x ∧ Below w.heap.size w A) (by kernel_rfl) ?_
  obtain ⟨wA, hwA⟩ : ∃ W_, W_ = W.drew := ⟨_, rfl⟩
  have bdr : Below W.heap.size W wA := by rw [hwA]; exact (Below.refl _ _).drew
  have hS : AryAt wA B x ∧ Below w.heap.size w wA := ⟨HBX.out.1.below bdr, HBX.out.2.trans (bdr.mono HBX.out.2.size)⟩
  rw [← hwA]
  clear hwA bdr
  refine MixH.takes [true, true, false, false, false, false, true, true, true, false, false, false, false, false, true, true, true, false, false, false, false, false, true, true, true] 19 (by kernel_rfl) (by kernel_rfl) (by decide) (by kernel_rfl) hS (fun K hK => ?_)
  simp only [Mix.pick]
  repeat (go_big_quiet_step (fail))
  refine wpQuiet_nil (hK _ ?_)
  clear hK K
  refine MixH.take 18 2 _ (.int .u8 (x (i) : Nat)) rfl (by kernel_rfl) (by kernel_rfl) (by kernel_rfl) (by kernel_rfl) (yields_by4 (.tmp 6) rfl ⟨B, i, none⟩ (.int .u8 (x (i) : Nat)) rfl rfl (fun A hA => hA.1.byte (i) (by have := HI.out; omega))) hS (fun a' ha => ?_)
  simp only [Act.put, List.setIfInBounds_toArray, List.set_cons_succ, List.set_cons_zero] at ha
  subst ha
  refine MixH.takes [false, false, false, true] 17 (by kernel_rfl) (by kernel_rfl) (by decide) (by kernel_rfl) hS (fun K hK => ?_)
  simp only [Mix.pick]
  repeat (go_big_quiet_step (fail))
  refine wpQuiet_nil (hK _ ?_)
  clear hK K
  refine MixH.take 16 9 _ (.int .u8 (x (i + 1) : Nat)) rfl (by kernel_rfl) (by kernel_rfl) (by kernel_rfl) (by kernel_rfl) (yields_by4 (.tmp 13) rfl ⟨B, i + 1, none⟩ (.int .u8 (x (i + 1) : Nat)) rfl rfl (fun A hA => hA.1.byte (i + 1) (by have := HI.out; omega))) hS (fun a' ha => ?_)
  simp only [Act.put, List.setIfInBounds_toArray, List.set_cons_succ, List.set_cons_zero] at ha
  subst ha
  refine MixH.takes [false, false, false, false, false, false, false, false, false, false, true] 15 (by kernel_rfl) (by kernel_rfl) (by decide) (by kernel_rfl) hS (fun K hK => ?_)
  simp only [Mix.pick]
  repeat (go_big_quiet_step (fail))
  refine wpQuiet_nil (hK _ ?_)
  clear hK K
  refine MixH.take 14 17 _ (.int .u8 (x (i + 2) : Nat)) rfl (by kernel_rfl) (by kernel_rfl) (by kernel_rfl) (by kernel_rfl) (yields_by4 (.tmp 21) rfl ⟨B, i + 2, none⟩ (.int .u8 (x (i + 2) : Nat)) rfl rfl (fun A hA => hA.1.byte (i + 2) (by have := HI.out; omega))) hS (fun a' ha => ?_)
  simp only [Act.put, List.setIfInBounds_toArray, List.set_cons_succ, List.set_cons_zero] at ha
  subst ha
  refine MixH.takes [false, false, false, false, false, false, false, false, false, false, false, false, false, false, false, false, false, false, true] 13 (by kernel_rfl) (by kernel_rfl) (by decide) (by kernel_rfl) hS (fun K hK => ?_)
  simp only [Mix.pick]
  repeat (go_big_quiet_step (fail))
  refine wpQuiet_nil (hK _ ?_)
  clear hK K
  refine MixH.take 12 25 _ (.int .u8 (x (i + 3) : Nat)) rfl (by kernel_rfl) (by kernel_rfl) (by kernel_rfl) (by kernel_rfl) (yields_by4 (.tmp 29) rfl ⟨B, i + 3, none⟩ (.int .u8 (x (i + 3) : Nat)) rfl rfl (fun A hA => hA.1.byte (i + 3) (by have := HI.out; omega))) hS (fun a' ha => ?_)
  simp only [Act.put, List.setIfInBounds_toArray, List.set_cons_succ, List.set_cons_zero] at ha
  subst ha
  refine MixH.takes [false, false, false, false, false, false, false, false, false, false, false, false, false, false, false, false, false, false, false, false, false, false, false, false, false, false, true] 11 (by kernel_rfl) (by kernel_rfl) (by decide) (by kernel_rfl) hS (fun K hK => ?_)
  simp only [Mix.pick]
  repeat (go_big_quiet_step (fail))
  refine wpQuiet_nil (hK _ ?_)
  clear hK K
  refine MixH.one [false, false, false, false, true] 10 4 _ rfl rfl (by kernel_rfl) (by kernel_rfl) (fun K hK => ?_)
  simp only [Mix.pick]
  go_wp2_with fail
  refine Calls.mono (num3_any (x (i)) wA (by have := HX.out (i) (by have := HI.out; omega); omega)) ?_
  rintro e w1 ⟨rfl, hb⟩
  have hS : AryAt w1 B x ∧ Below w.heap.size w w1 := ⟨hS.1.below hb, hS.2.trans (hb.mono hS.2.size)⟩
  clear hb
  go_wp2_with fail
  refine ⟨rfl, hK _ _ hS ?_⟩
  clear hK K
  refine MixH.take 9 5 _ (.string (txB ((dec3 (x (i))) ++ ([46])))) rfl (by kernel_rfl) (by kernel_rfl) (by kernel_rfl) (by kernel_rfl) (yields_cat (.tmp 9) (.const (.string ⟨#[46]⟩)) rfl (dec3 (x (i))) ([46]) _ rfl rfl rfl rfl (by have h0 := dec3_hi (x (i)); have h1 := dec3_hi (x (i + 1)); have h2 := dec3_hi (x (i + 2)); have h3 := dec3_hi (x (i + 3)); simp; omega)) hS (fun a' ha => ?_)
  simp only [Act.put, List.setIfInBounds_toArray, List.set_cons_succ, List.set_cons_zero] at ha
  subst ha
  refine MixH.one [false, false, false, false, false, false, false, false, false, false, false, true] 8 11 _ rfl rfl (by kernel_rfl) (by kernel_rfl) (fun K hK => ?_)
  simp only [Mix.pick]
  go_wp2_with fail
  refine Calls.mono (num3_any (x (i + 1)) w1 (by have := HX.out (i + 1) (by have := HI.out; omega); omega)) ?_
  rintro e w2 ⟨rfl, hb⟩
  have hS : AryAt w2 B x ∧ Below w.heap.size w w2 := ⟨hS.1.below hb, hS.2.trans (hb.mono hS.2.size)⟩
  clear hb
  go_wp2_with fail
  refine ⟨rfl, hK _ _ hS ?_⟩
  clear hK K
  refine MixH.take 7 12 _ (.string (txB ((dec3 (x (i)) ++ [46]) ++ (dec3 (x (i + 1)))))) rfl (by kernel_rfl) (by kernel_rfl) (by kernel_rfl) (by kernel_rfl) (yields_cat (.tmp 10) (.tmp 16) rfl (dec3 (x (i)) ++ [46]) (dec3 (x (i + 1))) _ rfl rfl rfl rfl (by have h0 := dec3_hi (x (i)); have h1 := dec3_hi (x (i + 1)); have h2 := dec3_hi (x (i + 2)); have h3 := dec3_hi (x (i + 3)); simp; omega)) hS (fun a' ha => ?_)
  simp only [Act.put, List.setIfInBounds_toArray, List.set_cons_succ, List.set_cons_zero] at ha
  subst ha
  refine MixH.take 6 13 _ (.string (txB (((dec3 (x (i)) ++ [46]) ++ dec3 (x (i + 1))) ++ ([46])))) rfl (by kernel_rfl) (by kernel_rfl) (by kernel_rfl) (by kernel_rfl) (yields_cat (.tmp 17) (.const (.string ⟨#[46]⟩)) rfl ((dec3 (x (i)) ++ [46]) ++ dec3 (x (i + 1))) ([46]) _ rfl rfl rfl rfl (by have h0 := dec3_hi (x (i)); have h1 := dec3_hi (x (i + 1)); have h2 := dec3_hi (x (i + 2)); have h3 := dec3_hi (x (i + 3)); simp; omega)) hS (fun a' ha => ?_)
  simp only [Act.put, List.setIfInBounds_toArray, List.set_cons_succ, List.set_cons_zero] at ha
  subst ha
  refine MixH.one [false, false, false, false, false, false, false, false, false, false, false, false, false, false, false, false, false, false, false, true] 5 19 _ rfl rfl (by kernel_rfl) (by kernel_rfl) (fun K hK => ?_)
  simp only [Mix.pick]
  go_wp2_with fail
  refine Calls.mono (num3_any (x (i + 2)) w2 (by have := HX.out (i + 2) (by have := HI.out; omega); omega)) ?_
  rintro e w3 ⟨rfl, hb⟩
  have hS : AryAt w3 B x ∧ Below w.heap.size w w3 := ⟨hS.1.below hb, hS.2.trans (hb.mono hS.2.size)⟩
  clear hb
  go_wp2_with fail
  refine ⟨rfl, hK _ _ hS ?_⟩
  clear hK K
  refine MixH.take 4 20 _ (.string (txB ((dec3 (x (i)) ++ 46 :: (dec3 (x (i + 1)) ++ [46])) ++ (dec3 (x (i + 2)))))) rfl (by kernel_rfl) (by kernel_rfl) (by kernel_rfl) (by kernel_rfl) (yields_cat (.tmp 18) (.tmp 24) rfl (dec3 (x (i)) ++ 46 :: (dec3 (x (i + 1)) ++ [46])) (dec3 (x (i + 2))) _ rfl rfl rfl rfl (by have h0 := dec3_hi (x (i)); have h1 := dec3_hi (x (i + 1)); have h2 := dec3_hi (x (i + 2)); have h3 := dec3_hi (x (i + 3)); simp; omega)) hS (fun a' ha => ?_)
  simp only [Act.put, List.setIfInBounds_toArray, List.set_cons_succ, List.set_cons_zero] at ha
  subst ha
  refine MixH.take 3 21 _ (.string (txB (((dec3 (x (i)) ++ 46 :: (dec3 (x (i + 1)) ++ [46])) ++ dec3 (x (i + 2))) ++ ([46])))) rfl (by kernel_rfl) (by kernel_rfl) (by kernel_rfl) (by kernel_rfl) (yields_cat (.tmp 25) (.const (.string ⟨#[46]⟩)) rfl ((dec3 (x (i)) ++ 46 :: (dec3 (x (i + 1)) ++ [46])) ++ dec3 (x (i + 2))) ([46]) _ rfl rfl rfl rfl (by have h0 := dec3_hi (x (i)); have h1 := dec3_hi (x (i + 1)); have h2 := dec3_hi (x (i + 2)); have h3 := dec3_hi (x (i + 3)); simp; omega)) hS (fun a' ha => ?_)
  simp only [Act.put, List.setIfInBounds_toArray, List.set_cons_succ, List.set_cons_zero] at ha
  subst ha
  refine MixH.one [false, false, false, false, false, false, false, false, false, false, false, false, false, false, false, false, false, false, false, false, false, false, false, false, false, false, false, true] 2 27 _ rfl rfl (by kernel_rfl) (by kernel_rfl) (fun K hK => ?_)
  simp only [Mix.pick]
  go_wp2_with fail
  refine Calls.mono (num3_any (x (i + 3)) w3 (by have := HX.out (i + 3) (by have := HI.out; omega); omega)) ?_
  rintro e w4 ⟨rfl, hb⟩
  have hS : AryAt w4 B x ∧ Below w.heap.size w w4 := ⟨hS.1.below hb, hS.2.trans (hb.mono hS.2.size)⟩
  clear hb
  go_wp2_with fail
  refine ⟨rfl, hK _ _ hS ?_⟩
  clear hK K
  refine MixH.take 1 28 _ (.string (txB ((dec3 (x (i)) ++ 46 :: (dec3 (x (i + 1)) ++ 46 :: (dec3 (x (i + 2)) ++ [46]))) ++ (dec3 (x (i + 3)))))) rfl (by kernel_rfl) (by kernel_rfl) (by kernel_rfl) (by kernel_rfl) (yields_cat (.tmp 26) (.tmp 32) rfl (dec3 (x (i)) ++ 46 :: (dec3 (x (i + 1)) ++ 46 :: (dec3 (x (i + 2)) ++ [46]))) (dec3 (x (i + 3))) _ rfl rfl rfl rfl (by have h0 := dec3_hi (x (i)); have h1 := dec3_hi (x (i + 1)); have h2 := dec3_hi (x (i + 2)); have h3 := dec3_hi (x (i + 3)); simp; omega)) hS (fun a' ha => ?_)
  simp only [Act.put, List.setIfInBounds_toArray, List.set_cons_succ, List.set_cons_zero] at ha
  subst ha
  refine MixH.takes [false, false, false, false, false, false, false, false, false, false, false, false, false, false, false, false, false, false, false, false, false, false, false, false, false, false, false, false, false, true] 0 (by kernel_rfl) (by kernel_rfl) (by decide) (by kernel_rfl) hS (fun K hK => ?_)
  simp only [Mix.pick]
  repeat (go_big_quiet_step (fail))
  refine wpQuiet_nil (hK _ ?_)
  clear hK K
  refine MixH.done (by kernel_rfl) ?_
  have HS2 : Hid (AryAt w4 B x ∧ Below w.heap.size w w4) := hS
  clear hS
  go_wp2
  go_ret
  exact ⟨by congr 3; unfold dots; simp, HS2.out.2⟩
set_option maxHeartbeats 1600000 in
set_option maxRecDepth 100000 in
theorem zerosR_any (x : Nat → Nat) (i : Nat) (w : World) (hi : i ≤ 8) : Calls Tryz.prog 87 #[.agg (arCells x), .int .i64 (i : Nat)] w fun r w' => r = .returned (.int .i64 ((zE x i - i : Nat) : Int)) ∧ Below w.heap.size w w' := by
  have HI : Hid (i ≤ 8) := hi
  clear hi
  have hb := ar_new w x
  have bel : Below w.heap.size w (w.alloc (.cells (arCells x) 26)) := (Below.refl _ _).alloc (Nat.le_refl _) _
  obtain ⟨CX, hC⟩ : ∃ C, C = arCells x := ⟨_, rfl⟩
  obtain ⟨W, hW⟩ : ∃ W_, W_ = w.alloc (.cells (arCells x) 26) := ⟨_, rfl⟩
  rw [← hW] at hb bel
  obtain ⟨B, hB⟩ : ∃ B, B = w.heap.size := ⟨_, rfl⟩
  rw [← hB] at hb
  have HBX : Hid (AryAt W B x ∧ Below w.heap.size w W) := ⟨hb, bel⟩
  rw [← hC] at hW ⊢
  have HOX : Hid (w.heap.size = B) := hB.symm
  have HWX : Hid (w.alloc (.cells CX 26) = W) := hW.symm
  clear hb hW hB hC bel
  go_enter Tryz.func87, Tryz.ntmps87
  go_upto_region 1 with fail
  rw [HOX.out, HWX.out]
  go_wp2
  go_loopw [5] (fun nv wr => ∃ n : Nat, nv = .int .i64 (n : Nat) ∧ Hid (i + n ≤ 8 ∧ zE x i = zE x (i + n)) ∧ wr = W) (fun nv _ => 8 - (i + (intOf nv).toNat))
  case atStart => exact ⟨0, rfl, ⟨HI.out, rfl⟩, rfl⟩
  case round =>
    obtain ⟨n, rfl, HN, rfl⟩ := hrel
    obtain ⟨k, hk⟩ : ∃ k, i + n = k := ⟨_, rfl⟩
    have HK : Hid (i + n = k ∧ k ≤ 8 ∧ zE x i = zE x k) := ⟨hk, by have := HN.out.1; omega, by have := HN.out.2; rw [hk] at this; exact this⟩
    have z0 : IntKind.i64.wrap ((i : Int) + (n : Int)) = (k : Int) := by rw [i64_s _ (by omega) (by have := HK.out; omega)]; omega
    clear hk HN
    by_cases hlt : k < 8
    · obtain ⟨q, hq⟩ : ∃ q, 2 * k = q := ⟨_, rfl⟩
      have HQ : Hid (2 * k = q ∧ k < 8) := ⟨hq, hlt⟩
      have z1 : IntKind.i64.wrap (2 * (k : Int)) = (q : Int) := by rw [i64_s _ (by omega) (by omega)]; omega
      have z2 : IntKind.i64.wrap ((q : Int) + 1) = (q : Int) + 1 := i64_s _ (by omega) (by omega)
      have z3 : (q : Int) < 16 := by omega
      have z4 : (q : Int) + 1 < 16 := by omega
      have z5 : (0 : Int) ≤ (q : Int) := by omega
      have z6 : (0 : Int) ≤ (q : Int) + 1 := by omega
      have z7 : IntKind.i64.wrap ((n : Int) + 1) = (n : Int) + 1 := i64_s _ (by omega) (by have := HK.out; omega)
      have p1 : decide ((k : Int) < 8) = true := decide_eq_true (by omega)
      have p2 : decide (k < 8) = true := decide_eq_true hlt
      have p3 : (k : Int) < 8 := by omega
      have b1 : wr.cell? ⟨B, q, none⟩ = some (.int .u8 (x q : Nat)) := HBX.out.1.byte q (by omega)
      have b2 : wr.cell? ⟨B, q + 1, none⟩ = some (.int .u8 (x (q + 1) : Nat)) := HBX.out.1.byte (q + 1) (by omega)
      clear hq hlt
      by_cases e1 : x q = 0
      · have f1 : ((x q : Nat) : Int) = 0 := by omega
        by_cases e2 : x (q + 1) = 0
        · have f2 : ((x (q + 1) : Nat) : Int) = 0 := by omega
          have HZ : Hid (zE x i = zE x (k + 1)) := by
            show zE x i = zE x (k + 1)
            rw [HK.out.2.2]
            exact zE_step HQ.out.2 (by unfold gx; rw [HQ.out.1, e1, e2])
          go_wp2
          go_roundw
          case rel => exact ⟨n + 1, by simp, ⟨by have := HK.out; have := HQ.out; omega, by rw [HZ.out, ← HK.out.1]; rfl⟩, trivial⟩
          case measure => have := HK.out; have := HQ.out; simp [intOf]; omega
        · have f2 : ¬ ((x (q + 1) : Nat) : Int) = 0 := by omega
          have HZ : Hid (n = zE x i - i) := by
            show n = zE x i - i
            rw [HK.out.2.2, zE_stop HQ.out.2 (by unfold gx; rw [HQ.out.1]; omega)]
            have := HK.out; omega
          go_wp2
          go_ret
          exact ⟨by rw [← HZ.out]; rfl, HBX.out.2⟩
      · have f1 : ¬ ((x q : Nat) : Int) = 0 := by omega
        have HZ : Hid (n = zE x i - i) := by
          show n = zE x i - i
          rw [HK.out.2.2, zE_stop HQ.out.2 (by unfold gx; rw [HQ.out.1]; omega)]
          have := HK.out; omega
        go_wp2
        go_ret
        exact ⟨by rw [← HZ.out]; rfl, HBX.out.2⟩
    · have p1 : decide ((k : Int) < 8) = false := decide_eq_false (by omega)
      have p2 : decide (k < 8) = false := decide_eq_false hlt
      have p3 : ¬ (k : Int) < 8 := by omega
      have HZ : Hid (n = zE x i - i) := by
        show n = zE x i - i
        rw [HK.out.2.2, zE_end x (by omega)]
        have := HK.out; omega
      clear hlt
      go_wp2
      go_ret
      exact ⟨by rw [← HZ.out]; rfl, HBX.out.2⟩
def mpR (x : Nat → Nat) : Bool := zE x 0 - 0 == 5 && x 10 == 255 && x 11 == 255
theorem mp_alike {x : Nat → Nat} (_hx : ∀ i, i < 16 → x i < 256) : mpR x = mpB x := by
  rw [Bool.eq_iff_iff]
  constructor
  · intro h
    unfold mpR at h
    simp only [Bool.and_eq_true, beq_iff_eq] at h
    obtain ⟨⟨h5, h10⟩, h11⟩ := h
    obtain ⟨_, _, hz⟩ := zEn_at x (8 - 0) 0
    have hz2 : ∀ k, k < 5 → gx x k = 0 := fun k hk => hz k (Nat.zero_le _) (by show k < zE x 0; omega)
    unfold mpB
    rw [same16_iff]
    intro k hk
    unfold hdA
    by_cases h12 : k < 12
    · rw [if_pos (by omega)]
      by_cases h10' : k < 10
      · rw [if_neg (by omega)]
        have h1 := gx_zero (hz2 (k / 2) (by omega))
        rcases (show k = 2 * (k / 2) ∨ k = 2 * (k / 2) + 1 by omega) with e | e
        · rw [e]; exact h1.1
        · rw [e]; exact h1.2
      · rw [if_pos (by omega)]
        rcases (show k = 10 ∨ k = 11 by omega) with rfl | rfl
        · exact h10
        · exact h11
    · rw [if_neg (by omega), if_neg (by omega)]
      have : mkA 96 k = 0 := by unfold mkA; rw [show 96 - 8 * k = 0 by omega]
      rw [this, Nat.and_zero]
  · intro h
    obtain ⟨h1, h2, h3⟩ := mp_at h
    have g0 : ∀ k, k < 5 → gx x k = 0 := fun k hk => by unfold gx; rw [h1 _ (by omega), h1 _ (by omega)]
    have e : zE x 0 = 5 := by
      rw [zE_step (by decide) (g0 0 (by decide)), zE_step (by decide) (g0 1 (by decide)), zE_step (by decide) (g0 2 (by decide)), zE_step (by decide) (g0 3 (by decide)), zE_step (by decide) (g0 4 (by decide))]
      exact zE_stop (by decide) (by unfold gx; show 256 * x 10 + x 11 ≠ 0; omega)
    unfold mpR
    rw [e, h2, h3]
    rfl
set_option maxHeartbeats 1600000 in
set_option maxRecDepth 100000 in
theorem mappedR_any (x : Nat → Nat) (w : World) : Calls Tryz.prog 86 #[.agg (arCells x)] w fun r w' => r = .returned (.bool (mpR x)) ∧ Below w.heap.size w w' := by
  have hb := ar_new w x
  have bel : Below w.heap.size w (w.alloc (.cells (arCells x) 26)) := (Below.refl _ _).alloc (Nat.le_refl _) _
  obtain ⟨CX, hC⟩ : ∃ C, C = arCells x := ⟨_, rfl⟩
  obtain ⟨W, hW⟩ : ∃ W_, W_ = w.alloc (.cells (arCells x) 26) := ⟨_, rfl⟩
  rw [← hW] at hb bel
  obtain ⟨B, hB⟩ : ∃ B, B = w.heap.size := ⟨_, rfl⟩
  rw [← hB] at hb
  have HBX : Hid (AryAt W B x ∧ Below w.heap.size w W) := ⟨hb, bel⟩
  rw [← hC] at hW ⊢
  have HOX : Hid (w.heap.size = B) := hB.symm
  have HWX : Hid (w.alloc (.cells CX 26) = W) := hW.symm
  clear hb hW hB hC bel
  go_enter Tryz.func86, Tryz.ntmps86
  go_upto_region 1 with fail
  rw [HOX.out, HWX.out]
  go_wp2_with (refine wpList_load_ar (.tmp 1) rfl B 0 x rfl (Ary_all HBX.out.1) rfl ?_)
  refine (zerosR_any x 0 W (by decide)).mono ?_
  rintro e w2 ⟨rfl, hb⟩
  have H2 : Hid (AryAt w2 B x ∧ Below w.heap.size w w2) := ⟨HBX.out.1.below hb, HBX.out.2.trans (hb.mono HBX.out.2.size)⟩
  clear hb HBX
  obtain ⟨z, hz⟩ : ∃ z, zE x 0 - 0 = z := ⟨_, rfl⟩
  obtain ⟨a, ha⟩ : ∃ a, x 10 = a := ⟨_, rfl⟩
  obtain ⟨b, hb⟩ : ∃ b, x 11 = b := ⟨_, rfl⟩
  have HR : Hid (mpR x = (z == 5 && a == 255 && b == 255)) := by show mpR x = _; unfold mpR; rw [hz, ha, hb]
  rw [hz]
  have b1 : w2.cell? ⟨B, 10, none⟩ = some (.int .u8 (a : Nat)) := by rw [← ha]; exact H2.out.1.byte 10 (by decide)
  have b2 : w2.cell? ⟨B, 11, none⟩ = some (.int .u8 (b : Nat)) := by rw [← hb]; exact H2.out.1.byte 11 (by decide)
  clear hz ha hb
  by_cases h5 : z = 5
  · subst h5
    by_cases h10 : a = 255
    · subst h10
      by_cases h11 : b = 255
      · subst h11
        go_wp2
        go_ret
        exact ⟨by rw [HR.out]; rfl, H2.out.2⟩
      · have f3 : ((b : Int) == 255) = false := by simp; omega
        have HV : Hid ((b == 255) = false) := by show (b == 255) = false; simp [h11]
        clear h11
        go_wp2
        go_ret
        exact ⟨by rw [HR.out, HV.out]; rfl, H2.out.2⟩
    · have f2 : ((a : Int) == 255) = false := by simp; omega
      have HV : Hid ((a == 255) = false) := by show (a == 255) = false; simp [h10]
      clear h10
      go_wp2
      go_ret
      exact ⟨by rw [HR.out, HV.out]; rfl, H2.out.2⟩
  · have f1 : ((z : Int) == 5) = false := by simp; omega
    have HV : Hid ((z == 5) = false) := by show (z == 5) = false; simp [h5]
    clear h5
    go_wp2
    go_ret
    exact ⟨by rw [HR.out, HV.out]; rfl, H2.out.2⟩
end Go.Proofs.YteldiggaooeeeaaGreatDoor
namespace Go.Proofs.YteldiggaooeeeaaGreatDoor
open Go.RowKit Go.Maps

def atL (p : Nat × Nat) : Int := if p.2 - p.1 < 2 then -1 else (p.1 : Int)
def lgL (p : Nat × Nat) : Nat := if p.2 - p.1 < 2 then 1 else p.2 - p.1
theorem lz_yes {x : Nat → Nat} {k : Nat} (h : lgL (lzN x k) < zE x k - k) : atL (lzN x (k + 1)) = (k : Int) ∧ lgL (lzN x (k + 1)) = zE x k - k := by
  unfold lgL at h
  have e : lzN x (k + 1) = (k, zE x k) := by
    show (if (lzN x k).2 - (lzN x k).1 < zE x k - k then (k, zE x k) else lzN x k) = (k, zE x k)
    rw [if_pos (by split at h <;> omega)]
  rw [e]
  unfold atL lgL
  have h2 : ¬ zE x k - k < 2 := by split at h <;> omega
  exact ⟨if_neg h2, if_neg h2⟩
theorem lz_no {x : Nat → Nat} {k : Nat} (h : ¬ lgL (lzN x k) < zE x k - k) : atL (lzN x (k + 1)) = atL (lzN x k) ∧ lgL (lzN x (k + 1)) = lgL (lzN x k) := by
  unfold lgL at h
  by_cases hc : (lzN x k).2 - (lzN x k).1 < zE x k - k
  · have e : lzN x (k + 1) = (k, zE x k) := by
      show (if (lzN x k).2 - (lzN x k).1 < zE x k - k then (k, zE x k) else lzN x k) = (k, zE x k)
      rw [if_pos hc]
    rw [e]
    unfold atL lgL
    have h1 : (lzN x k).2 - (lzN x k).1 < 2 := by split at h <;> omega
    rw [if_pos h1] at h
    rw [if_pos h1, if_pos h1]
    have h2 : zE x k - k < 2 := by omega
    exact ⟨if_pos h2, if_pos h2⟩
  · have e : lzN x (k + 1) = lzN x k := by
      show (if (lzN x k).2 - (lzN x k).1 < zE x k - k then (k, zE x k) else lzN x k) = lzN x k
      rw [if_neg hc]
    rw [e]
    exact ⟨rfl, rfl⟩
def hxD (x : Nat → Nat) (k : Nat) : List Nat := if k < 8 then hexL (gx x k) else []
theorem hxD_len {x : Nat → Nat} (hx : ∀ i, i < 16 → x i < 256) (k : Nat) : (hxD x k).length ≤ 4 := by
  unfold hxD
  split
  · rename_i h
    exact (hexL_grp (gx_lt hx h)).hi
  · simp
theorem gl_congr {D E : Nat → List Nat} {x : Nat → Nat} {a b : Nat} (h : ∀ k, k < b → D k = E k) : gl D x a b = gl E x a b := by
  unfold gl
  apply List.map_congr_left
  intro k hk
  rw [List.mem_range'] at hk
  obtain ⟨z, hz, rfl⟩ := hk
  rw [h _ (by omega)]
/-- the ends of the groups that the canonical text leaves out -/
theorem prG_pre (x : Nat → Nat) : ∃ I J : Nat, FOk 8 I J ∧ ((atL (lzN x 8) = -1 ∧ lgL (lzN x 8) = 1 ∧ I = 8 ∧ J = 8) ∨ (atL (lzN x 8) = (I : Int) ∧ lgL (lzN x 8) = J - I ∧ I < J)) ∧ preT (hxD x) x I J 8 = prG x := by
  obtain ⟨h1, h2, _⟩ := lzN_at x 8 (Nat.le_refl _)
  have hg : ∀ a b, b ≤ 8 → gl (hxD x) x a b = gl (fun k => hexL (gx x k)) x a b := fun a b hb => gl_congr (fun k hk => if_pos (by omega))
  unfold prG
  by_cases h : (lzN x 8).2 - (lzN x 8).1 < 2
  · refine ⟨8, 8, .inr ⟨rfl, rfl⟩, .inl ⟨if_pos h, if_pos h, rfl, rfl⟩, ?_⟩
    rw [if_pos h, if_pos h, preT_flat _ _ (.inr ⟨rfl, rfl⟩)]
    unfold txt
    rw [if_neg (by omega), if_neg (by omega), hg 0 (nT false) (Nat.le_refl 8)]
  · refine ⟨(lzN x 8).1, (lzN x 8).2, .inl ⟨by omega, h2⟩, .inr ⟨if_neg h, if_neg h, by omega⟩, ?_⟩
    rw [if_neg h, if_neg h, preT_flat _ _ (.inl ⟨by omega, h2⟩)]
    unfold txt
    rw [if_pos (by omega), if_pos (by omega), hg 0 _ (by omega), hg _ (nT false) (Nat.le_refl 8)]
set_option maxHeartbeats 4000000 in
set_option maxRecDepth 100000 in
theorem printIPR_any (V : Int) (x : Nat → Nat) (w : World) (hx : ∀ i, i < 16 → x i < 256) : Calls Tryz.prog 47 #[.agg (ipCells V x)] w fun r w' => r = .returned (prO V x) ∧ Below w.heap.size w w' := by
  have HX : Hid (∀ i, i < 16 → x i < 256) := hx
  clear hx
  go_enter Tryz.func47, Tryz.ntmps47
  go_wp2_with (refine wpList_box_ipN (.tmp 0) rfl V x rfl rfl ?_)
  intro B W1 HB1 hI bI
  have H1 : Hid (IprAt W1 B V x ∧ Below w.heap.size w W1) := ⟨hI, bI⟩
  clear hI bI HB1
  go_wp2_with (refine wpList_load_ipr (.tmp 1) rfl B V x rfl H1.out.1 rfl ?_)
  refine (validR_any V x W1).mono ?_
  rintro e w2 ⟨rfl, hb⟩
  have H2 : Hid (IprAt w2 B V x ∧ Below w.heap.size w w2) := ⟨H1.out.1.below hb, H1.out.2.trans (hb.mono H1.out.2.size)⟩
  clear hb H1
  have hpr : prO V x = if vR V x then .tuple #[.string (txB (prIP V x)), .int .i64 0] else .tuple #[.string ⟨#[]⟩, .int .i64 40] := by unfold prO; rw [vld_vR V x HX.out]
  cases hv : vR V x with
  | false =>
    rw [hv] at hpr
    have HRES : Hid (prO V x = .tuple #[.string ⟨#[]⟩, .int .i64 40]) := hpr
    clear hpr
    go_wp2
    go_ret2
    exact ⟨by rw [HRES.out]; rfl, H2.out.2⟩
  | true =>
    rw [hv, if_pos rfl] at hpr
    have k0 : w2.cell? ⟨B, 0, none⟩ = some (.int .i64 V) := H2.out.1.cell 0
    by_cases h4 : V = 4
    · subst h4
      have HRES : Hid (prO 4 x = .tuple #[.string (txB (dots (x 0) (x 1) (x 2) (x 3))), .int .i64 0]) := hpr
      clear hpr
      go_wp2_with (refine wpList_load_ar (.tmp 18) rfl B 1 x rfl H2.out.1.ar rfl ?_)
      refine (dotsR_any x 0 w2 HX.out (by decide)).mono ?_
      rintro e w3 ⟨rfl, hb⟩
      have H3 : Hid (Below w.heap.size w w3) := H2.out.2.trans (hb.mono H2.out.2.size)
      clear hb k0
      go_wp2
      go_ret2
      exact ⟨by rw [HRES.out]; rfl, H3.out⟩
    · have f4 : (V == 4) = false := by simp [h4]
      have hip : prIP V x = if mpB x then [58, 58, 102, 102, 102, 102, 58] ++ dots (x 12) (x 13) (x 14) (x 15) else prG x := by unfold prIP; rw [if_neg h4]
      clear h4
      go_wp2_with (refine wpList_load_ar (.tmp 21) rfl B 1 x rfl H2.out.1.ar rfl ?_)
      refine (mappedR_any x w2).mono ?_
      rintro e w3 ⟨rfl, hb⟩
      have H3 : Hid (IprAt w3 B V x ∧ Below w.heap.size w w3) := ⟨H2.out.1.below hb, H2.out.2.trans (hb.mono H2.out.2.size)⟩
      clear hb k0 H2
      rw [mp_alike HX.out]
      cases hm : mpB x with
      | true =>
        rw [hm, if_pos rfl] at hip
        rw [hip] at hpr
        have HRES : Hid (prO V x = .tuple #[.string (txB ([58, 58, 102, 102, 102, 102, 58] ++ dots (x 12) (x 13) (x 14) (x 15))), .int .i64 0]) := hpr
        clear hpr hip hm
        go_wp2_with (refine wpList_load_ar (.tmp 24) rfl B 1 x rfl H3.out.1.ar rfl ?_)
        refine (dotsR_any x 12 w3 HX.out (by decide)).mono ?_
        rintro e w4 ⟨rfl, hb⟩
        have H4 : Hid (Below w.heap.size w w4) := H3.out.2.trans (hb.mono H3.out.2.size)
        clear hb
        go_wp2_with (refine wpList_cat (.const (.string ⟨#[58, 58, 102, 102, 102, 102, 58]⟩)) (.tmp 26) rfl [58, 58, 102, 102, 102, 102, 58] (dots (x 12) (x (12 + 1)) (x (12 + 2)) (x (12 + 3))) _ _ rfl rfl rfl rfl rfl (by have := dots_hi (x 12) (x (12 + 1)) (x (12 + 2)) (x (12 + 3)); simp only [List.length_cons, List.length_nil]; omega) ?_)
        go_ret2
        exact ⟨by rw [HRES.out]; rfl, H4.out⟩
      | false =>
        rw [hm, if_neg (by decide)] at hip
        rw [hip] at hpr
        have HRES : Hid (prO V x = .tuple #[.string (txB (prG x)), .int .i64 0]) := hpr
        clear hpr hip hm
        go_wp2
        go_loopw [5, 6, 7, 8] (fun av lv kv _ wr => ∃ k : Nat, k ≤ 8 ∧ av = .int .i64 (atL (lzN x k)) ∧ lv = .int .i64 (lgL (lzN x k) : Nat) ∧ kv = .int .i64 (k : Int) ∧ Hid (IprAt wr B V x ∧ Below w.heap.size w wr)) (fun _ _ kv _ _ => 8 - (intOf kv).toNat)
        case atStart => exact ⟨0, by omega, rfl, rfl, rfl, H3.out⟩
        case round =>
          obtain ⟨k, hk, rfl, rfl, rfl, HO⟩ := hrel
          by_cases hlt : k < 8
          · have HK : Hid (k < 8) := hlt
            have c1 : decide ((k : Int) < (8 : Int)) = true := decide_eq_true (by omega)
            have c2 : (k : Int) < (8 : Int) := by omega
            have c3 : decide (k < 8) = true := decide_eq_true (by omega)
            have c4 : k < 8 := by omega
            clear hlt hk
            have z7 : IntKind.i64.wrap ((k : Int) + 1) = (k : Int) + 1 := i64_s _ (by omega) (by have := HK.out; omega)
            go_wp2_with (refine wpList_load_ar (.tmp 32) rfl B 1 x rfl HO.out.1.ar rfl ?_)
            refine (zerosR_any x k wr (by have := HK.out; omega)).mono ?_
            rintro e w4 ⟨rfl, hb⟩
            have H4 : Hid (IprAt w4 B V x ∧ Below w.heap.size w w4) := ⟨HO.out.1.below hb, HO.out.2.trans (hb.mono HO.out.2.size)⟩
            clear hb
            by_cases hc : lgL (lzN x k) < zE x k - k
            · have HY : Hid _ := lz_yes hc
              obtain ⟨z, hz⟩ : ∃ z, zE x k - k = z := ⟨_, rfl⟩
              obtain ⟨l, hl⟩ : ∃ l, lgL (lzN x k) = l := ⟨_, rfl⟩
              have HZ : Hid (zE x k - k = z) := hz
              rw [hz, hl] at hc
              rw [hz, hl]
              have c5 : decide ((l : Int) < (z : Int)) = true := decide_eq_true (by omega)
              have c6 : (l : Int) < (z : Int) := by omega
              clear hz hl
              go_wp2
              go_roundw
              case rel => exact ⟨k + 1, HK.out, by rw [HY.out.1], by rw [HY.out.2, HZ.out], by simp, H4.out⟩
              case measure => have := HK.out; simp [intOf]; omega
            · have HY : Hid _ := lz_no hc
              obtain ⟨z, hz⟩ : ∃ z, zE x k - k = z := ⟨_, rfl⟩
              obtain ⟨l, hl⟩ : ∃ l, lgL (lzN x k) = l := ⟨_, rfl⟩
              have HL : Hid (lgL (lzN x k) = l) := hl
              rw [hz, hl] at hc
              rw [hz, hl]
              have c7 : decide ((l : Int) < (z : Int)) = false := decide_eq_false (by omega)
              have c8 : ¬ (l : Int) < (z : Int) := by omega
              clear hz hl
              go_wp2
              go_roundw
              case rel => exact ⟨k + 1, HK.out, by rw [HY.out.1], by rw [HY.out.2, HL.out], by simp, H4.out⟩
              case measure => have := HK.out; simp [intOf]; omega
          · have HE : Hid (k = 8) := by show k = 8; omega
            obtain rfl := HE.out
            have HW : Hid (IprAt wr B V x ∧ Below w.heap.size w wr) := HO.out
            clear HO hlt hk HE
            obtain ⟨I, J, hF, hAT, hPG⟩ := prG_pre x
            obtain ⟨at_, hat⟩ : ∃ a_, atL (lzN x 8) = a_ := ⟨_, rfl⟩
            obtain ⟨lg, hlg⟩ : ∃ l_, lgL (lzN x 8) = l_ := ⟨_, rfl⟩
            rw [hat, hlg] at hAT
            rw [hat, hlg]
            have HF : Hid (FOk 8 I J) := hF
            have HAT : Hid (((at_ = -1 ∧ lg = 1 ∧ I = 8 ∧ J = 8) ∨ (at_ = (I : Int) ∧ lg = J - I ∧ I < J)) ∧ J ≤ 8) := ⟨hAT, by rcases hF with h | h <;> omega⟩
            have HPG : Hid (preT (hxD x) x I J 8 = prG x) := hPG
            have za : IntKind.i64.wrap (at_ + (lg : Int)) = at_ + (lg : Int) := by rw [IntKind.wrap_i64]; have := HAT.out; omega
            clear hat hlg hF hAT hPG
            go_wp2
            go_loopw [9, 10, 82, 88] (fun s kv _ _ wr => ∃ k : Nat, s = .string (txB (preT (hxD x) x I J k)) ∧ kv = .int .i64 (k : Int) ∧ Hid (k ≤ 8 ∧ IprAt wr B V x ∧ Below w.heap.size w wr)) (fun _ kv _ _ _ => 8 - (intOf kv).toNat)
            case atStart => exact ⟨0, by rw [preT_0]; rfl, rfl, Nat.zero_le _, HW.out⟩
            case round =>
              obtain ⟨k, rfl, rfl, HO⟩ := hrel
              by_cases hlt : k < 8
              · have HK : Hid (k < 8) := hlt
                have c35 : decide ((k : Int) < (8 : Int)) = true := decide_eq_true (by omega)
                have c36 : (k : Int) < (8 : Int) := by omega
                have c37 : decide (k < 8) = true := decide_eq_true (by omega)
                have c38 : k < 8 := by omega
                clear hlt
                have z7 : IntKind.i64.wrap ((k : Int) + 1) = (k : Int) + 1 := i64_s _ (by omega) (by have := HK.out; omega)
                by_cases hA : k = I ∧ I < J
                · obtain ⟨rfl, hIJ⟩ := hA
                  have HA : Hid (at_ = (k : Int) ∧ k < J) := by have h := HAT.out; show at_ = (k : Int) ∧ k < J; omega
                  have HP : Hid (preT (hxD x) x k J (k + 1) = preT (hxD x) x k J k ++ [58, 58]) := preT_gap (hxD x) x hIJ
                  have e1 : ((k : Int) == at_) = true := by rw [HA.out.1]; simp
                  clear hIJ
                  go_wp2_with (refine wpList_cat (.tmp 86) (.const (.string ⟨#[58, 58]⟩)) rfl (preT (hxD x) x k J k) [58, 58] _ _ rfl rfl rfl rfl rfl (by have := preT_len x (hxD_len HX.out) k J k; have := HK.out; simp only [List.length_cons, List.length_nil]; omega) ?_)
                  go_roundw
                  case rel => first | exact ⟨k + 1, by rw [HP.out], by simp, HK.out, HO.out.2⟩ | ((repeat apply Exists.intro); exact ⟨⟨k + 1, by rw [HP.out], by simp, HK.out, HO.out.2⟩, rfl⟩)
                  case measure => have := HK.out; simp [intOf]; omega
                · by_cases hB : I < k ∧ k < J
                  · have HP : Hid (preT (hxD x) x I J (k + 1) = preT (hxD x) x I J k) := preT_in (hxD x) x hB.1 hB.2
                    have HA : Hid (at_ = (I : Int) ∧ at_ + (lg : Int) = (J : Int)) := by have h := HAT.out; show at_ = (I : Int) ∧ at_ + (lg : Int) = (J : Int); omega
                    have e1 : ((k : Int) == at_) = false := by have := HA.out; simp; omega
                    have e2 : ¬ (k : Int) = at_ := by have := HA.out; omega
                    have c9 : decide ((0 : Int) ≤ (at_ : Int)) = true := decide_eq_true (by have := HA.out; omega)
                    have c10 : (0 : Int) ≤ (at_ : Int) := by have := HA.out; omega
                    have c11 : decide ((at_ : Int) < (k : Int)) = true := decide_eq_true (by have := HA.out; omega)
                    have c12 : (at_ : Int) < (k : Int) := by have := HA.out; omega
                    have c13 : decide ((k : Int) < (at_ + (lg : Int) : Int)) = true := decide_eq_true (by have := HA.out; omega)
                    have c14 : (k : Int) < (at_ + (lg : Int) : Int) := by have := HA.out; omega
                    clear hA hB
                    go_wp2
                    go_roundw
                    case rel => first | exact ⟨k + 1, by rw [HP.out], by simp, HK.out, HO.out.2⟩ | ((repeat apply Exists.intro); exact ⟨⟨k + 1, by rw [HP.out], by simp, HK.out, HO.out.2⟩, rfl⟩)
                    case measure => have := HK.out; simp [intOf]; omega
                  · have HC : Hid (I ≤ J ∧ k ≠ I ∧ (k < I ∨ (I < J ∧ J ≤ k))) := by
                      have h := HF.out
                      have h2 := HK.out
                      unfold FOk at h
                      show I ≤ J ∧ k ≠ I ∧ (k < I ∨ (I < J ∧ J ≤ k))
                      omega
                    have HP : Hid (preT (hxD x) x I J (k + 1) = preT (hxD x) x I J k ++ (if 0 < k ∧ k ≠ J then 58 :: hxD x k else hxD x k)) := preT_grp (hxD x) x HC.out.1 HC.out.2.2
                    have e1 : ((k : Int) == at_) = false := by have h := HAT.out; have h2 := HC.out; simp; omega
                    have e2 : ¬ (k : Int) = at_ := by have h := HAT.out; have h2 := HC.out; omega
                    clear hA hB
                    go_upto_region 26 with fail
                    go_cut [88] (fun u wx => u = .bool false ∧ wr = wx)
                    case first =>
                      by_cases h0 : 0 ≤ at_
                      · by_cases h1 : at_ < (k : Int)
                        · have h2 : ¬ (k : Int) < at_ + (lg : Int) := by have := HAT.out; have := HC.out; omega
                          have c15 : decide ((0 : Int) ≤ (at_ : Int)) = true := decide_eq_true (by omega)
                          have c16 : (0 : Int) ≤ (at_ : Int) := by omega
                          have c17 : decide ((at_ : Int) < (k : Int)) = true := decide_eq_true (by omega)
                          have c18 : (at_ : Int) < (k : Int) := by omega
                          have c19 : decide ((k : Int) < (at_ + (lg : Int) : Int)) = false := decide_eq_false (by omega)
                          have c20 : ¬ (k : Int) < (at_ + (lg : Int) : Int) := by omega
                          clear h0 h1 h2
                          go_wp2
                          go_meet
                          exact ⟨rfl, rfl⟩
                        · have h2 : ¬ at_ < (k : Int) := h1
                          have c21 : decide ((0 : Int) ≤ (at_ : Int)) = true := decide_eq_true (by omega)
                          have c22 : (0 : Int) ≤ (at_ : Int) := by omega
                          have c23 : decide ((at_ : Int) < (k : Int)) = false := decide_eq_false (by omega)
                          have c24 : ¬ (at_ : Int) < (k : Int) := by omega
                          clear h0 h1 h2
                          go_wp2
                          go_meet
                          exact ⟨rfl, rfl⟩
                      · have h2 : ¬ 0 ≤ at_ := h0
                        have c25 : decide ((0 : Int) ≤ (at_ : Int)) = false := decide_eq_false (by omega)
                        have c26 : ¬ (0 : Int) ≤ (at_ : Int) := by omega
                        clear h0 h2
                        go_wp2
                        go_meet
                        exact ⟨rfl, rfl⟩
                    case rest =>
                      obtain ⟨rfl, rfl⟩ := hcut
                      go_upto_region 21 with fail
                      obtain ⟨SEP, hSEP⟩ : ∃ SEP : List Nat, SEP = if 0 < k ∧ k ≠ J then [58] else [] := ⟨_, rfl⟩
                      have HSEP : Hid (SEP = (if 0 < k ∧ k ≠ J then [58] else []) ∧ SEP.length ≤ 1) := ⟨hSEP, by rw [hSEP]; split <;> simp⟩
                      clear hSEP
                      go_cut [61] (fun u wx => u = .bool (decide (0 < k ∧ k ≠ J)) ∧ wr = wx)
                      case first =>
                        by_cases h0 : 0 < k
                        · by_cases h1 : k = J
                          · have HD : Hid (decide (0 < k ∧ k ≠ J) = false) := decide_eq_false (by omega)
                            have HA : Hid (0 ≤ at_ ∧ (k : Int) = at_ + (lg : Int)) := by have h := HAT.out; have h2 := HK.out; show 0 ≤ at_ ∧ (k : Int) = at_ + (lg : Int); omega
                            have e1 : ((k : Int) != at_ + (lg : Int)) = false := by have := HA.out; simp; omega
                            have c27 : decide ((0 : Int) < (k : Int)) = true := decide_eq_true (by omega)
                            have c28 : (0 : Int) < (k : Int) := by omega
                            have c29 : decide ((at_ : Int) < (0 : Int)) = false := decide_eq_false (by have := HA.out; omega)
                            have c30 : ¬ (at_ : Int) < (0 : Int) := by have := HA.out; omega
                            clear h0 h1
                            go_wp2
                            go_meet
                            exact ⟨by rw [HD.out], rfl⟩
                          · have HD : Hid (decide (0 < k ∧ k ≠ J) = true) := decide_eq_true ⟨h0, h1⟩
                            by_cases h2 : (k : Int) = at_ + (lg : Int)
                            · exfalso
                              have h := HAT.out
                              omega
                            · have e1 : ((k : Int) != at_ + (lg : Int)) = true := by simp; omega
                              have e2 : ¬ (k : Int) = at_ + (lg : Int) := h2
                              have c31 : decide ((0 : Int) < (k : Int)) = true := decide_eq_true (by omega)
                              have c32 : (0 : Int) < (k : Int) := by omega
                              clear h0 h1 h2
                              go_wp2
                              go_meet
                              exact ⟨by rw [HD.out], rfl⟩
                        · have HD : Hid (decide (0 < k ∧ k ≠ J) = false) := decide_eq_false (by omega)
                          have c33 : decide ((0 : Int) < (k : Int)) = false := decide_eq_false (by omega)
                          have c34 : ¬ (0 : Int) < (k : Int) := by omega
                          clear h0
                          go_wp2
                          go_meet
                          exact ⟨by rw [HD.out], rfl⟩
                      case rest =>
                        obtain ⟨rfl, rfl⟩ := hcut
                        go_upto_if 61 with fail
                        go_cut [9] (fun u wx => u = .string (txB (preT (hxD x) x I J k ++ SEP)) ∧ wr = wx)
                        case first =>
                          by_cases h0 : 0 < k ∧ k ≠ J
                          · have HS : Hid (SEP = [58]) := by have := HSEP.out.1; rw [if_pos h0] at this; exact this
                            rw [decide_eq_true h0]
                            clear h0
                            go_wp2_with (refine wpList_cat (.tmp 62) (.const (.string ⟨#[58]⟩)) rfl (preT (hxD x) x I J k) [58] _ _ rfl rfl rfl rfl rfl (by have := preT_len x (hxD_len HX.out) I J k; have := HK.out; simp only [List.length_cons, List.length_nil]; omega) ?_)
                            go_meet
                            exact ⟨by rw [HS.out], rfl⟩
                          · have HS : Hid (SEP = []) := by have := HSEP.out.1; rw [if_neg h0] at this; exact this
                            rw [decide_eq_false h0]
                            clear h0
                            go_wp2
                            go_meet
                            exact ⟨by rw [HS.out, List.append_nil], rfl⟩
                        case rest =>
                          obtain ⟨rfl, rfl⟩ := hcut
                          obtain ⟨q, hq⟩ : ∃ q, 2 * k = q := ⟨_, rfl⟩
                          have HQ : Hid (2 * k = q) := hq
                          have z1 : IntKind.i64.wrap (2 * (k : Int)) = (q : Int) := by rw [i64_s _ (by omega) (by have := HK.out; omega)]; omega
                          have z2 : IntKind.i64.wrap ((q : Int) + 1) = (q : Int) + 1 := i64_s _ (by omega) (by have := HK.out; omega)
                          have z3 : (q : Int) < 16 := by have := HK.out; omega
                          have z4 : (q : Int) + 1 < 16 := by have := HK.out; omega
                          have z5 : (0 : Int) ≤ (q : Int) := by omega
                          have z6 : (0 : Int) ≤ (q : Int) + 1 := by omega
                          have HQL : Hid (q + 1 < 16) := by have := HK.out; show q + 1 < 16; omega
                          have HGX : Hid (256 * x q + x (q + 1) = gx x k ∧ gx x k < 65536) := ⟨by unfold gx; rw [HQ.out], gx_lt HX.out HK.out⟩
                          have z8 : IntKind.i64.wrap ((x q : Nat) : Int) = ((x q : Nat) : Int) := i64_s _ (by omega) (by have := HX.out q (by have := HQL.out; omega); omega)
                          have z9 : IntKind.i64.wrap ((x (q + 1) : Nat) : Int) = ((x (q + 1) : Nat) : Int) := i64_s _ (by omega) (by have := HX.out (q + 1) HQL.out; omega)
                          have za : IntKind.i64.wrap (256 * ((x q : Nat) : Int)) = 256 * ((x q : Nat) : Int) := i64_s _ (by omega) (by have := HX.out q (by have := HQL.out; omega); omega)
                          have zb : IntKind.i64.wrap (256 * ((x q : Nat) : Int) + ((x (q + 1) : Nat) : Int)) = ((gx x k : Nat) : Int) := by rw [i64_s _ (by omega) (by have := HGX.out; omega)]; have := HGX.out; omega
                          clear hq
                          go_upto_region 23 with fail
                          refine MixH.start (fun A => IprAt A B V x ∧ Below w.heap.size w A) (by kernel_rfl) ?_
                          obtain ⟨wA, hwA⟩ : ∃ W_, W_ = wr.drew := ⟨_, rfl⟩
                          have bdr : Below wr.heap.size wr wA := by rw [hwA]; exact (Below.refl _ _).drew
                          have hS : IprAt wA B V x ∧ Below w.heap.size w wA := ⟨HO.out.2.1.below bdr, HO.out.2.2.trans (bdr.mono HO.out.2.2.size)⟩
                          rw [← hwA]
                          clear hwA bdr
                          refine MixH.takes [true, true, true, true, true, false, false, false, true, true, true, true, true] 9 (by kernel_rfl) (by kernel_rfl) (by decide) (by kernel_rfl) hS (fun K hK => ?_)
                          simp only [Mix.pick]
                          repeat (go_big_quiet_step (fail))
                          refine wpQuiet_nil (hK _ ?_)
                          clear hK K
                          refine MixH.take 8 5 _ (.int .u8 (x q : Nat)) rfl (by kernel_rfl) (by kernel_rfl) (by kernel_rfl) (by kernel_rfl) (yields_by4 (.tmp 68) rfl ⟨B, 1 + q, none⟩ (.int .u8 (x q : Nat)) rfl rfl (fun A hA => hA.1.byte q (by omega))) hS (fun a' ha => ?_)
                          simp only [Act.put, List.setIfInBounds_toArray, List.set_cons_succ, List.set_cons_zero] at ha
                          subst ha
                          refine MixH.takes [false, false, false, false, false, false, true, true] 6 (by kernel_rfl) (by kernel_rfl) (by decide) (by kernel_rfl) hS (fun K hK => ?_)
                          simp only [Mix.pick]
                          repeat (go_big_quiet_step (fail))
                          refine wpQuiet_nil (hK _ ?_)
                          clear hK K
                          refine MixH.take 5 13 _ (.int .u8 (x (q + 1) : Nat)) rfl (by kernel_rfl) (by kernel_rfl) (by kernel_rfl) (by kernel_rfl) (yields_by4 (.tmp 76) rfl ⟨B, 1 + (q + 1), none⟩ (.int .u8 (x (q + 1) : Nat)) rfl rfl (fun A hA => hA.1.byte (q + 1) (by omega))) hS (fun a' ha => ?_)
                          simp only [Act.put, List.setIfInBounds_toArray, List.set_cons_succ, List.set_cons_zero] at ha
                          subst ha
                          refine MixH.takes [false, false, false, false, false, false, false, false, false, false, false, false, false, false, true, true] 3 (by kernel_rfl) (by kernel_rfl) (by decide) (by kernel_rfl) hS (fun K hK => ?_)
                          simp only [Mix.pick]
                          repeat (go_big_quiet_step (fail))
                          refine wpQuiet_nil (hK _ ?_)
                          clear hK K
                          refine MixH.one [false, false, false, false, false, false, false, false, false, false, false, false, false, false, false, false, true] 2 16 _ rfl rfl (by kernel_rfl) (by kernel_rfl) (fun K hK => ?_)
                          simp only [Mix.pick]
                          go_wp2_with fail
                          refine Calls.mono (hex_any (gx x k) wA HGX.out.2) ?_
                          rintro e w5 ⟨rfl, hb⟩
                          have hS : IprAt w5 B V x ∧ Below w.heap.size w w5 := ⟨hS.1.below hb, hS.2.trans (hb.mono hS.2.size)⟩
                          clear hb
                          go_wp2_with fail
                          refine ⟨rfl, hK _ _ hS ?_⟩
                          clear hK K
                          refine MixH.take 1 17 _ (.string (txB ((preT (hxD x) x I J k ++ SEP) ++ hexL (gx x k)))) rfl (by kernel_rfl) (by kernel_rfl) (by kernel_rfl) (by kernel_rfl) (yields_cat (.tmp 64) (.tmp 80) rfl (preT (hxD x) x I J k ++ SEP) (hexL (gx x k)) _ rfl rfl rfl rfl (by have := preT_len x (hxD_len HX.out) I J k; have := HK.out; have := HSEP.out.2; have := (hexL_grp HGX.out.2).hi; rw [List.length_append]; omega)) hS (fun a' ha => ?_)
                          simp only [Act.put, List.setIfInBounds_toArray, List.set_cons_succ, List.set_cons_zero] at ha
                          subst ha
                          refine MixH.takes [false, false, false, false, false, false, false, false, false, false, false, false, false, false, false, false, false, false, true] 0 (by kernel_rfl) (by kernel_rfl) (by decide) (by kernel_rfl) hS (fun K hK => ?_)
                          simp only [Mix.pick]
                          repeat (go_big_quiet_step (fail))
                          refine wpQuiet_nil (hK _ ?_)
                          clear hK K
                          refine MixH.done (by kernel_rfl) ?_
                          have HS2 : Hid (IprAt w5 B V x ∧ Below w.heap.size w w5) := hS
                          clear hS
                          go_wp2
                          go_roundw
                          case rel => first | exact ⟨k + 1, by rw [HP.out, HSEP.out.1, show hxD x k = hexL (gx x k) from if_pos HK.out]; by_cases h : 0 < k ∧ k ≠ J <;> simp [h], by simp, HK.out, HS2.out⟩ | ((repeat apply Exists.intro); exact ⟨⟨k + 1, by rw [HP.out, HSEP.out.1, show hxD x k = hexL (gx x k) from if_pos HK.out]; by_cases h : 0 < k ∧ k ≠ J <;> simp [h], by simp, HK.out, HS2.out⟩, rfl⟩)
                          case measure => have := HK.out; simp [intOf]; omega
              · have HE : Hid (k = 8) := by have := HO.out.1; show k = 8; omega
                obtain rfl := HE.out
                have HW2 : Hid (IprAt wr B V x ∧ Below w.heap.size w wr) := HO.out.2
                clear HO hlt HE
                rw [HPG.out]
                go_wp2
                go_ret2
                exact ⟨by rw [HRES.out]; rfl, HW2.out.2⟩
end Go.Proofs.YteldiggaooeeeaaGreatDoor
namespace Go.Proofs.YteldiggaooeeeaaGreatDoor
open Go.RowKit Go.Maps

theorem wpList_box_pfxN {ops : Array Oper} {rest : List Oper} {o : Oper} {a : Act} {w : World} {Q : Exit → Act → World → Prop} (X : Operand) (ho : o.op = .box 38 X) (pv_ : PV) (hx : a.eval X = .agg (pfC pv_)) (hw : Region.wanted o (yielded ops a.tmps) = true)
    (h : ∀ B W, Hid (w.heap.size = B ∧ W.heap.size = B + 1) → PfxAt W B pv_ → Below w.heap.size w W → wpList Tryz.prog ops Q rest (a.put o.dst (.pointer (some ⟨B, 0, none⟩))) W) : wpList Tryz.prog ops Q (o :: rest) a w := by
  refine wpList_step fun K hK => ?_
  rw [if_pos hw]
  have hrun : (execOp a.eval o).run Tryz.prog w = .ok (.value (.pointer (some ⟨w.heap.size, 0, none⟩))) (w.alloc (.cells (pfC pv_) 38)) := by
    obtain ⟨dst, op, type, pos, after, guard⟩ := o
    simp only at ho
    subst ho
    simp only [execOp, hx]
    go_simp
  unfold Oper.wp
  rw [hrun]
  exact hK _ _ (h _ _ ⟨rfl, World.size_alloc _ _⟩ (pfx_new _ _) ((Below.refl _ _).alloc (Nat.le_refl _) _))
theorem wpList_box_macN {ops : Array Oper} {rest : List Oper} {o : Oper} {a : Act} {w : World} {Q : Exit → Act → World → Prop} (X : Operand) (ho : o.op = .box 40 X) (mv_ : Nat → Nat) (hx : a.eval X = .agg (macC mv_)) (hw : Region.wanted o (yielded ops a.tmps) = true)
    (h : ∀ B W, Hid (w.heap.size = B ∧ W.heap.size = B + 1) → MacAt W B mv_ → Below w.heap.size w W → wpList Tryz.prog ops Q rest (a.put o.dst (.pointer (some ⟨B, 0, none⟩))) W) : wpList Tryz.prog ops Q (o :: rest) a w := by
  refine wpList_step fun K hK => ?_
  rw [if_pos hw]
  have hrun : (execOp a.eval o).run Tryz.prog w = .ok (.value (.pointer (some ⟨w.heap.size, 0, none⟩))) (w.alloc (.cells (macC mv_) 40)) := by
    obtain ⟨dst, op, type, pos, after, guard⟩ := o
    simp only at ho
    subst ho
    simp only [execOp, hx]
    go_simp
  unfold Oper.wp
  rw [hrun]
  exact hK _ _ (h _ _ ⟨rfl, World.size_alloc _ _⟩ (mac_new _ _) ((Below.refl _ _).alloc (Nat.le_refl _) _))
theorem PfxAt.ipr {w : World} {O : Nat} {p : PV} (h : PfxAt w O p) : w.rangeAt O 0 (ipCells p.V p.x).toList := by
  have e : ((pfC p).extract 0 (0 + 17)).toList = (ipCells p.V p.x).toList := by kernel_rfl
  rw [← e]
  exact PfxAt.range h 0 17
theorem vp_vldR {p : PV} (h : vpE p = 0) : vld p.V p.x = true := by
  cases hv : vld p.V p.x with
  | true => rfl
  | false =>
    exfalso
    have hm : mkE p.V p.x p.n = 40 := by unfold mkE; rw [if_pos hv]
    unfold vpE at h
    rw [hm] at h
    simp at h
theorem mac_at (m : Nat → Nat) (i : Nat) (h : i < 6) : (macC m)[i]? = some (.int .u8 (m i : Nat)) := by
  rcases (show i = 0 ∨ i = 1 ∨ i = 2 ∨ i = 3 ∨ i = 4 ∨ i = 5 by omega) with rfl | rfl | rfl | rfl | rfl | rfl <;> rfl
theorem prM_next (m : Nat → Nat) (k : Nat) : prM m (k + 1) = prM m k ++ (if k = 0 then [] else [58]) ++ mcD (m k) := by
  rw [prM_succ]
  by_cases h : k = 0
  · subst h; rfl
  · rw [if_neg h, if_neg h]
theorem prIP_hi {V : Int} {x : Nat → Nat} (hx : ∀ i, i < 16 → x i < 256) : (prIP V x).length ≤ 100 := by
  unfold prIP
  split
  · have := dots_hi (x 0) (x 1) (x 2) (x 3); omega
  · split
    · have := dots_hi (x 12) (x 13) (x 14) (x 15)
      simp only [List.length_append, List.length_cons, List.length_nil]; omega
    · obtain ⟨I, J, _, _, e⟩ := prG_pre x
      rw [← e]
      have := preT_len x (hxD_len hx) I J 8
      omega
set_option maxHeartbeats 1600000 in
set_option maxRecDepth 100000 in
theorem printPfxR_any (p : PV) (w : World) (hx : ∀ i, i < 16 → p.x i < 256) : Calls Tryz.prog 49 #[.agg (pfC p)] w fun r w' => r = .returned (pfO p) ∧ Below w.heap.size w w' := by
  have HX : Hid (∀ i, i < 16 → p.x i < 256) := hx
  clear hx
  go_enter Tryz.func49, Tryz.ntmps49
  go_wp2_with (refine wpList_box_pfxN (.tmp 0) rfl p rfl rfl ?_)
  intro B W1 HB1 hI bI
  have H1 : Hid (PfxAt W1 B p ∧ Below w.heap.size w W1) := ⟨hI, bI⟩
  clear hI bI HB1
  go_wp2_with (refine wpList_load_pfx (.tmp 1) rfl B p rfl H1.out.1 rfl ?_)
  refine (validPrefixR_any p W1 HX.out).mono ?_
  rintro e w2 ⟨rfl, hb⟩
  have H2 : Hid (PfxAt w2 B p ∧ Below w.heap.size w w2) := ⟨H1.out.1.below hb, H1.out.2.trans (hb.mono H1.out.2.size)⟩
  clear hb H1
  rw [← vp_alike p HX.out]
  by_cases h0 : vpE p = 0
  · have HV : Hid (vld p.V p.x = true ∧ pfO p = .tuple #[.string (txB (prIP p.V p.x ++ 47 :: dec3 p.n.toNat)), .int .i64 0]) := ⟨vp_vldR h0, pfO_yes h0⟩
    have hn := vp_n h0
    obtain ⟨m, hm⟩ : ∃ m, p.n.toNat = m := ⟨_, rfl⟩
    have HM : Hid (p.n.toNat = m ∧ m ≤ 128 ∧ p.n = (m : Int)) := ⟨hm, by omega, by omega⟩
    rw [h0]
    clear h0 hn hm
    go_wp2_with (refine wpList_mid_ipr (.tmp 13) rfl B 0 p.V p.x rfl H2.out.1.ipr rfl ?_)
    refine (printIPR_any p.V p.x w2 HX.out).mono ?_
    rintro e w3 ⟨rfl, hb⟩
    have H3 : Hid (PfxAt w3 B p ∧ Below w.heap.size w w3) := ⟨H2.out.1.below hb, H2.out.2.trans (hb.mono H2.out.2.size)⟩
    clear hb H2
    rw [prO_yes HV.out.1]
    have kn : w3.cell? ⟨B, 17, none⟩ = some (.int .i64 (m : Nat)) := by rw [← HM.out.2.2]; exact H3.out.1.cell 17
    have HL : Hid ((prIP p.V p.x).length ≤ 100) := prIP_hi HX.out
    go_wp2_with (refine wpList_cat (.tmp 18) (.const (.string ⟨#[47]⟩)) rfl (prIP p.V p.x) [47] _ _ rfl rfl rfl rfl rfl (by have := HL.out; simp only [List.length_cons, List.length_nil]; omega) ?_)
    refine (num3_any m w3 (by have := HM.out; omega)).mono ?_
    rintro e w4 ⟨rfl, hb⟩
    have H4 : Hid (Below w.heap.size w w4) := H3.out.2.trans (hb.mono H3.out.2.size)
    clear hb kn
    go_wp2_with (refine wpList_cat (.tmp 19) (.tmp 22) rfl (prIP p.V p.x ++ [47]) (dec3 m) _ _ rfl rfl rfl rfl rfl (by have := HL.out; have := dec3_hi m; simp only [List.length_append, List.length_cons, List.length_nil]; omega) ?_)
    go_ret2
    exact ⟨by rw [HV.out.2, HM.out.1]; simp, H4.out⟩
  · have HV : Hid (pfO p = .tuple #[.string ⟨#[]⟩, .int .i64 (vpE p : Nat)]) := pfO_no h0
    obtain ⟨m, hm⟩ : ∃ m, vpE p = m := ⟨_, rfl⟩
    have HM : Hid (vpE p = m) := hm
    rw [hm] at h0
    rw [hm]
    have f1 : ((m : Int) != 0) = true := by simp; omega
    have f2 : ¬ (m : Int) = 0 := by omega
    clear h0 hm
    go_wp2
    go_ret2
    exact ⟨by rw [HV.out, HM.out]; rfl, H2.out.2⟩
set_option maxHeartbeats 1600000 in
set_option maxRecDepth 100000 in
theorem printMacR_any (m : Nat → Nat) (w : World) (hm : ∀ i, i < 6 → m i < 256) : Calls Tryz.prog 51 #[.agg (macC m)] w fun r w' => r = .returned (.string (txB (prM m 6))) ∧ Below w.heap.size w w' := by
  have HX : Hid (∀ i, i < 6 → m i < 256) := hm
  clear hm
  go_enter Tryz.func51, Tryz.ntmps51
  go_wp2_with (refine wpList_box_macN (.tmp 0) rfl m rfl rfl ?_)
  intro B W1 HB1 hI bI
  have H1 : Hid (MacAt W1 B m ∧ Below w.heap.size w W1) := ⟨hI, bI⟩
  clear hI bI HB1
  go_wp2
  go_loopw [3, 4] (fun s kv wr => ∃ k : Nat, s = .string (txB (prM m k)) ∧ kv = .int .i64 (k : Int) ∧ Hid (k ≤ 6 ∧ MacAt wr B m ∧ Below w.heap.size w wr)) (fun _ kv _ => 6 - (intOf kv).toNat)
  case atStart => exact ⟨0, rfl, rfl, by omega, H1.out⟩
  case round =>
    obtain ⟨k, rfl, rfl, HO⟩ := hrel
    by_cases hlt : k < 6
    · have HK : Hid (k < 6) := hlt
      have p1 : decide ((k : Int) < 6) = true := decide_eq_true (by omega)
      have p2 : decide (k < 6) = true := decide_eq_true hlt
      have p3 : (k : Int) < 6 := by omega
      have p4 : (0 : Int) ≤ (k : Int) := by omega
      have z7 : IntKind.i64.wrap ((k : Int) + 1) = (k : Int) + 1 := i64_s _ (by omega) (by omega)
      clear hlt
      obtain ⟨SEP, hSEP⟩ : ∃ SEP : List Nat, SEP = if k = 0 then [] else [58] := ⟨_, rfl⟩
      have HSEP : Hid (SEP = (if k = 0 then [] else [58]) ∧ SEP.length ≤ 1) := ⟨hSEP, by rw [hSEP]; split <;> simp⟩
      clear hSEP
      go_upto_if 10 with fail
      go_cut [3] (fun u wx => u = .string (txB (prM m k ++ SEP)) ∧ wr = wx)
      case first =>
        by_cases h0 : k = 0
        · have HS : Hid (SEP = []) := by have := HSEP.out.1; rw [if_pos h0] at this; exact this
          have q1 : decide ((0 : Int) < (k : Int)) = false := decide_eq_false (by omega)
          have q2 : decide (0 < k) = false := decide_eq_false (by omega)
          have q3 : ¬ (0 : Int) < (k : Int) := by omega
          have q4 : ¬ 0 < k := by omega
          clear h0
          go_wp2
          go_meet
          exact ⟨by rw [HS.out, List.append_nil], rfl⟩
        · have HS : Hid (SEP = [58]) := by have := HSEP.out.1; rw [if_neg h0] at this; exact this
          have q1 : decide ((0 : Int) < (k : Int)) = true := decide_eq_true (by omega)
          have q2 : decide (0 < k) = true := decide_eq_true (by omega)
          have q3 : (0 : Int) < (k : Int) := by omega
          have q4 : 0 < k := by omega
          clear h0
          go_wp2_with (refine wpList_cat (.tmp 11) (.const (.string ⟨#[58]⟩)) rfl (prM m k) [58] _ _ rfl rfl rfl rfl rfl (by have := prM_len m k; have := HK.out; simp only [List.length_cons, List.length_nil]; omega) ?_)
          go_meet
          exact ⟨by rw [HS.out], rfl⟩
      case rest =>
        obtain ⟨rfl, rfl⟩ := hcut
        obtain ⟨b, hb⟩ : ∃ b, m k = b := ⟨_, rfl⟩
        have HB : Hid (m k = b ∧ b < 256) := ⟨hb, by rw [← hb]; exact HX.out k HK.out⟩
        obtain ⟨u, hu⟩ : ∃ u, hd (b / 16) = u := ⟨_, rfl⟩
        obtain ⟨v, hv⟩ : ∃ v, hd (b % 16) = v := ⟨_, rfl⟩
        have HU : Hid (sB dgM (b / 16) = u ∧ sB dgM (b % 16) = v ∧ u < 256 ∧ v < 256 ∧ mcD (m k) = [u, v]) := ⟨by rw [dgM_at (by have := HB.out; omega), hu], by rw [dgM_at (by omega), hv], by rw [← hu]; exact hd_lt (by have := HB.out; omega), by rw [← hv]; exact hd_lt (by omega), by unfold mcD; rw [hb, hu, hv]⟩
        clear hb hu hv
        go_upto_region 7 with fail
        refine MixH.start (fun A => MacAt A B m ∧ Below w.heap.size w A) (by kernel_rfl) ?_
        obtain ⟨wA, hwA⟩ : ∃ W_, W_ = wr.drew := ⟨_, rfl⟩
        have bdr : Below wr.heap.size wr wA := by rw [hwA]; exact (Below.refl _ _).drew
        have hS : MacAt wA B m ∧ Below w.heap.size w wA := ⟨HO.out.2.1.below bdr, HO.out.2.2.trans (bdr.mono HO.out.2.2.size)⟩
        rw [← hwA]
        clear hwA bdr
        refine MixH.takes [true, true, true, false, false, false, true, true] 10 (by kernel_rfl) (by kernel_rfl) (by decide) (by kernel_rfl) hS (fun K hK => ?_)
        simp only [Mix.pick]
        repeat (go_big_quiet_step (fail))
        refine wpQuiet_nil (hK _ ?_)
        clear hK K
        refine MixH.take 9 3 _ (.int .u8 (b : Nat)) rfl (by kernel_rfl) (by kernel_rfl) (by kernel_rfl) (by kernel_rfl) (yields_by4 (.tmp 15) rfl ⟨B, k, none⟩ (.int .u8 (b : Nat)) rfl rfl (fun A hA => by rw [← HB.out.1, hA.1.cell k]; exact mac_at m k HK.out)) hS (fun a' ha => ?_)
        simp only [Act.put, List.setIfInBounds_toArray, List.set_cons_succ, List.set_cons_zero] at ha
        subst ha
        refine MixH.takes [false, false, false, false, true] 8 (by kernel_rfl) (by kernel_rfl) (by decide) (by kernel_rfl) hS (fun K hK => ?_)
        simp only [Mix.pick]
        repeat (go_big_quiet_step (fail))
        refine wpQuiet_nil (hK _ ?_)
        clear hK K
        refine MixH.take 7 5 _ (.int .u8 (u : Nat)) rfl (by kernel_rfl) (by kernel_rfl) (by kernel_rfl) (by kernel_rfl) (yields_sBv (.const (.string dgM)) (.tmp 17) rfl .u8 dgM (b / 16) ((b : Int) / 16 % 256) u HU.out.1 rfl rfl (by have := HB.out; omega) (by have := HB.out; show b / 16 < 16; omega) rfl) hS (fun a' ha => ?_)
        simp only [Act.put, List.setIfInBounds_toArray, List.set_cons_succ, List.set_cons_zero] at ha
        subst ha
        refine MixH.take 6 8 _ (.int .u8 (b : Nat)) rfl (by kernel_rfl) (by kernel_rfl) (by kernel_rfl) (by kernel_rfl) (yields_by4 (.tmp 20) rfl ⟨B, k, none⟩ (.int .u8 (b : Nat)) rfl rfl (fun A hA => by rw [← HB.out.1, hA.1.cell k]; exact mac_at m k HK.out)) hS (fun a' ha => ?_)
        simp only [Act.put, List.setIfInBounds_toArray, List.set_cons_succ, List.set_cons_zero] at ha
        subst ha
        refine MixH.takes [false, false, false, false, false, false, false, false, false, true] 5 (by kernel_rfl) (by kernel_rfl) (by decide) (by kernel_rfl) hS (fun K hK => ?_)
        simp only [Mix.pick]
        repeat (go_big_quiet_step (fail))
        refine wpQuiet_nil (hK _ ?_)
        clear hK K
        refine MixH.take 4 10 _ (.int .u8 (v : Nat)) rfl (by kernel_rfl) (by kernel_rfl) (by kernel_rfl) (by kernel_rfl) (yields_sBv (.const (.string dgM)) (.tmp 22) rfl .u8 dgM (b % 16) ((b : Int) % 16) v HU.out.2.1 rfl rfl (by have := HB.out; omega) (by have := HB.out; show b % 16 < 16; omega) rfl) hS (fun a' ha => ?_)
        simp only [Act.put, List.setIfInBounds_toArray, List.set_cons_succ, List.set_cons_zero] at ha
        subst ha
        refine MixH.one [false, false, false, false, false, false, false, false, false, false, false, true] 3 11 _ rfl rfl (by kernel_rfl) (by kernel_rfl) (fun K hK => ?_)
        simp only [Mix.pick]
        go_wp2_with fail
        obtain ⟨w3, hw3⟩ : ∃ W_, W_ = wA.alloc (.cells #[.int .u8 (u : Nat), .int .u8 (v : Nat)] 5) := ⟨_, rfl⟩
        have b3 : Below wA.heap.size wA w3 := by rw [hw3]; exact (Below.refl _ _).alloc (Nat.le_refl _) _
        have hS : MacAt w3 B m ∧ Below w.heap.size w w3 := ⟨hS.1.below b3, hS.2.trans (b3.mono hS.2.size)⟩
        have kc := conv_old wA [u, v] (fun c hc => by simp at hc; have := HU.out; omega) 2 rfl wA.heap.size rfl w3 hw3 w3 (Below.refl _ _)
        rw [← hw3]
        clear hw3 b3
        refine ⟨rfl, hK _ _ hS ?_⟩
        clear hK K
        refine MixH.one [false, false, false, false, false, false, false, false, false, false, false, false, true] 2 12 _ rfl rfl (by kernel_rfl) (by kernel_rfl) (fun K hK => ?_)
        simp only [Mix.pick]
        go_wp2_with fail
        clear kc
        refine ⟨rfl, hK _ _ hS ?_⟩
        clear hK K
        refine MixH.take 1 13 _ (.string (txB ((prM m k ++ SEP) ++ [u, v]))) rfl (by kernel_rfl) (by kernel_rfl) (by kernel_rfl) (by kernel_rfl) (yields_cat (.tmp 13) (.tmp 25) rfl (prM m k ++ SEP) [u, v] _ rfl rfl rfl rfl (by have := prM_len m k; have := HK.out; have := HSEP.out.2; rw [List.length_append]; simp; omega)) hS (fun a' ha => ?_)
        simp only [Act.put, List.setIfInBounds_toArray, List.set_cons_succ, List.set_cons_zero] at ha
        subst ha
        refine MixH.takes [false, false, false, false, false, false, false, false, false, false, false, false, false, false, true] 0 (by kernel_rfl) (by kernel_rfl) (by decide) (by kernel_rfl) hS (fun K hK => ?_)
        simp only [Mix.pick]
        repeat (go_big_quiet_step (fail))
        refine wpQuiet_nil (hK _ ?_)
        clear hK K
        refine MixH.done (by kernel_rfl) ?_
        have HS2 : Hid (MacAt w3 B m ∧ Below w.heap.size w w3) := hS
        clear hS
        go_wp2
        go_roundw
        case rel => exact ⟨k + 1, by rw [prM_next, HSEP.out.1, HU.out.2.2.2.2]; try simp, by simp, HK.out, HS2.out⟩
        case measure => have := HK.out; simp [intOf]; omega
    · have HE : Hid (k = 6) := by have := HO.out.1; show k = 6; omega
      obtain rfl := HE.out
      have HW2 : Hid (MacAt wr B m ∧ Below w.heap.size w wr) := HO.out.2
      clear HO hlt HE
      go_wp2
      go_ret
      exact ⟨rfl, HW2.out.2⟩
end Go.Proofs.YteldiggaooeeeaaGreatDoor
namespace Go.Proofs.YteldiggaooeeeaaGreatDoor
open Go.RowKit Go.Maps

theorem pr_shape (V : Int) (x : Nat → Nat) : ∃ (s : ByteArray) (e : Nat), prO V x = .tuple #[.string s, .int .i64 (e : Nat)] := by
  unfold prO
  split
  · exact ⟨_, 0, rfl⟩
  · exact ⟨_, 40, rfl⟩
theorem pf_shape (p : PV) : ∃ (s : ByteArray) (e : Nat), pfO p = .tuple #[.string s, .int .i64 (e : Nat)] := by
  unfold pfO
  split
  · exact ⟨_, 0, rfl⟩
  · exact ⟨_, _, rfl⟩
set_option maxHeartbeats 4000000 in
set_option maxRecDepth 100000 in
theorem printed_any (o : OP) (hok : OpOk o) (w : World) (hs : Gl4 w) : Calls Tryz.prog 23 #[.agg (opA o)] w fun r w' => r = .returned (.bool true) ∧ Below w.heap.size w w' := by
  have HOK : Hid (OpOk o) := hok
  have HSP : Hid (Gl4 w) := hs
  clear hok hs
  go_enter Tryz.func23, Tryz.ntmps23
  go_wp2_with (refine wpList_box_ophN (.tmp 0) rfl o rfl rfl ?_)
  intro B W1 HB1 hI bI
  have H1 : Hid (OphAt W1 B o ∧ Below w.heap.size w W1) := ⟨hI, bI⟩
  clear hI bI HB1
  have k0 : W1.cell? ⟨B, 0, none⟩ = some (.int .i64 o.k) := H1.out.1.cell 0
  have k6 : W1.cell? ⟨B, 60, none⟩ = some (.int .i64 o.n) := H1.out.1.cell 60
  by_cases h4 : o.k = 4
  · have g4 : (o.k == 4) = true := by rw [h4]; rfl
    clear h4
    obtain ⟨ss, en, hg⟩ := pr_shape o.aV o.ax
    have HG : Hid (prO o.aV o.ax = .tuple #[.string ss, .int .i64 (en : Nat)]) := hg
    clear hg
    go_wp2_with (refine wpList_mid_ipr (.tmp 18) rfl B 2 o.aV o.ax rfl H1.out.1.ra rfl ?_)
    refine (printIP_any o.aV o.ax W1 HOK.out.a (HSP.out.below H1.out.2)).mono ?_
    rintro e w33 ⟨rfl, hb⟩
    have H34 : Hid (OphAt w33 B o ∧ Below w.heap.size w w33) := ⟨H1.out.1.below hb, H1.out.2.trans (hb.mono H1.out.2.size)⟩
    clear hb
    rw [HG.out]
    clear k0 k6
    go_wp2_with (refine wpList_mid_ipr (.tmp 24) rfl B 2 o.aV o.ax rfl H34.out.1.ra rfl ?_)
    refine (printIPR_any o.aV o.ax w33 HOK.out.a).mono ?_
    rintro e w35 ⟨rfl, hb⟩
    have H36 : Hid (OphAt w35 B o ∧ Below w.heap.size w w35) := ⟨H34.out.1.below hb, H34.out.2.trans (hb.mono H34.out.2.size)⟩
    clear hb
    rw [HG.out]
    go_wp2_with fail
    refine (num4_any _ w35).mono ?_
    rintro e wz ⟨rfl, rfl⟩
    go_wp2
    go_ret
    exact ⟨rfl, H36.out.2⟩
  · have g4 : (o.k == 4) = false := by simp [h4]
    clear h4
    by_cases h5 : o.k = 5
    · have g5 : (o.k == 5) = true := by rw [h5]; rfl
      clear h5
      obtain ⟨ss, en, hg⟩ := pf_shape o.p
      have HG : Hid (pfO o.p = .tuple #[.string ss, .int .i64 (en : Nat)]) := hg
      clear hg
      go_wp2_with (refine wpList_mid_pfx (.tmp 41) rfl B 36 o.p rfl H1.out.1.rp rfl ?_)
      refine (printPfx_any o.p W1 HOK.out.p (HSP.out.below H1.out.2)).mono ?_
      rintro e w37 ⟨rfl, hb⟩
      have H38 : Hid (OphAt w37 B o ∧ Below w.heap.size w w37) := ⟨H1.out.1.below hb, H1.out.2.trans (hb.mono H1.out.2.size)⟩
      clear hb
      rw [HG.out]
      clear k0 k6
      go_wp2_with (refine wpList_mid_pfx (.tmp 47) rfl B 36 o.p rfl H38.out.1.rp rfl ?_)
      refine (printPfxR_any o.p w37 HOK.out.p).mono ?_
      rintro e w39 ⟨rfl, hb⟩
      have H40 : Hid (OphAt w39 B o ∧ Below w.heap.size w w39) := ⟨H38.out.1.below hb, H38.out.2.trans (hb.mono H38.out.2.size)⟩
      clear hb
      rw [HG.out]
      go_wp2_with fail
      refine (num4_any _ w39).mono ?_
      rintro e wz ⟨rfl, rfl⟩
      go_wp2
      go_ret
      exact ⟨rfl, H40.out.2⟩
    · have g5 : (o.k == 5) = false := by simp [h5]
      clear h5
      go_wp2_with (refine wpList_mid_mac (.tmp 61) rfl B 54 o.m rfl H1.out.1.rm rfl ?_)
      refine (printMac_any o.m W1 HOK.out.m).mono ?_
      rintro e w29 ⟨rfl, hb⟩
      have H30 : Hid (OphAt w29 B o ∧ Below w.heap.size w w29) := ⟨H1.out.1.below hb, H1.out.2.trans (hb.mono H1.out.2.size)⟩
      clear hb
      go_wp2_with (refine wpList_mid_mac (.tmp 64) rfl B 54 o.m rfl H30.out.1.rm rfl ?_)
      refine (printMacR_any o.m w29 HOK.out.m).mono ?_
      rintro e w31 ⟨rfl, hb⟩
      have H32 : Hid (OphAt w31 B o ∧ Below w.heap.size w w31) := ⟨H30.out.1.below hb, H30.out.2.trans (hb.mono H30.out.2.size)⟩
      clear hb
      obtain ⟨tx, htx⟩ : ∃ u_, prM o.m 6 = u_ := ⟨_, rfl⟩
      rw [htx]
      clear htx
      obtain ⟨ss, hss⟩ : ∃ u_, txB tx = u_ := ⟨_, rfl⟩
      rw [hss]
      clear hss k0 k6
      go_wp2
      go_ret
      exact ⟨rfl, H32.out.2⟩
end Go.Proofs.YteldiggaooeeeaaGreatDoor
