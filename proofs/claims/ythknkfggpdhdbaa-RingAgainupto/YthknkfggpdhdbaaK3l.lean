/-
  Dk1 Dk2 Ag1 Ag2, one behind the other.
-/
import Derived.Test.YthknkfggpdhdbaaK3k
import Derived.Test.YthknkfggpdhdbaaK3h
import Derived.Test.YthknkfggpdhdbaaK3i
import Derived.Test.YthknkfggpdhdbaaK3j
namespace Go.Proofs.Ythknkfggpdhdbaa.Dk
open Go.RowKit

def bh (i : Nat) : Nat := ((203 - 5 * (i : Int)) % 256).toNat
theorem bh_lt (i : Nat) : bh i < 256 := by unfold bh; omega
theorem bh_wrap (i : Nat) : IntKind.u8.wrap (203 - 5 * (i : Int)) = ((bh i : Nat) : Int) := by
  simp [bh, IntKind.wrap, IntKind.bits, IntKind.signed]; omega
theorem mark_any (i : Nat) (w : World) (h : i ≤ 4398046511104) : Calls Try.prog 46 #[.int .i64 (i : Int)] w fun e w' => e = .returned (.int .u8 ((bh i : Nat) : Int)) ∧ w = w' := by
  have h2 := bh_wrap i
  go_enter Try.func46, Try.ntmps46
  go_wp2
  go_ret
  exact ⟨rfl, rfl⟩
/-- the desk in memory -/
structure DeskAt (w : World) (B D : Nat) (a : Option Addr) (N n : Nat) (xs : List Int) : Prop where
  c0 : w.cell? ⟨D, 0, none⟩ = some (.slice a N N)
  c1 : w.cell? ⟨D, 1, none⟩ = some (.int .i64 (n : Int))
  fz : ∀ j, w.frozen? ⟨D, j, none⟩ = false
  own : w.ownsRow B 5 1 (.slice a N N) N (xs.map (Value.int .u8))
  nD : ∀ g, a = some ⟨g, 0, none⟩ → g ≠ D
  hD : B ≤ D
  hN : N ≤ 2097664
def dB (D : Nat) (a : Option Addr) (q : Nat) : Prop := q = D ∨ ∃ y, a = some y ∧ y.block = q
variable {w w' : World} {B D : Nat} {a : Option Addr} {N n : Nat} {xs : List Int}
theorem own_blk (h : w.ownsRow B 5 1 (.slice a N N) N (xs.map (Value.int .u8))) : ∀ q, (Value.slice a N N).ownBlock = some q → dB D a q := fun q hq => by
  rcases h.2 with ⟨h1, _⟩ | ⟨g, cap, cur, h1, _⟩
  · rw [h1] at hq; cases hq
  · have e := (Value.slice.inj h1).1
    subst e
    have : g = q := by simpa [Value.ownBlock] using hq
    exact .inr ⟨_, rfl, this⟩
theorem DeskAt.ch {T : Nat → Prop} (h : DeskAt w B D a N n xs) (k : Ch T w w') (hT : ∀ q, dB D a q → ¬ T q) : DeskAt w' B D a N n xs :=
  ⟨k.cell h.c0 (hT D (.inl rfl)), k.cell h.c1 (hT D (.inl rfl)), fun j => (k.frozen (p := ⟨D, j, none⟩) (World.block_lt_of_cell? w ⟨D, 0, none⟩ h.c0) (hT D (.inl rfl))).trans (h.fz j), k.owns h.own (fun q hq => hT q (own_blk h.own q hq)), h.nD, h.hD, h.hN⟩
theorem DeskAt.below (h : DeskAt w B D a N n xs) (k : Below w.heap.size w w') : DeskAt w' B D a N n xs := h.ch (Ch.ofBelow (S := fun _ => False) k) (fun _ _ => id)
/-- what is lent, and the marks behind it -/
def dk (l : List Nat) (N : Nat) : List Nat := l ++ ((List.range N).map bh).drop l.length
theorem dk_len (l : List Nat) (N : Nat) (h : l.length ≤ N) : (dk l N).length = N := by simp [dk]; omega
theorem ovrI_set (f : Nat → Nat) (d : List Nat) (j : Nat) (h : j < d.length) : ((toI (ovr f d j)).map (Value.int .u8)).set j (.int .u8 ((f j : Nat) : Int)) = (toI (ovr f d (j + 1))).map (Value.int .u8) := by
  rw [← ovr_set f d j h]; simp [toI, List.map_set]
theorem DeskAt.put {g : Nat} (h : DeskAt w B D (some ⟨g, 0, none⟩) N n xs) (k : Nat) (hk : k < N) (y : Int) : ∃ zs, DeskAt (w.setCell ⟨g, k, none⟩ (.int .u8 y)) B D (some ⟨g, 0, none⟩) N n zs ∧ Ch (fun q => q = g) w (w.setCell ⟨g, k, none⟩ (.int .u8 y)) := by
  obtain ⟨g2, hg2, z2, _, _, NX⟩ := xor_step h.own k hk
  have e2 : g2 = g := by simpa using hg2.symm
  subst e2
  obtain ⟨n1, n2⟩ := NX (.int .u8 y) y rfl
  have nD := h.nD _ rfl
  exact ⟨_, ⟨n2.cell h.c0 (fun e => nD e.symm), n2.cell h.c1 (fun e => nD e.symm), fun j => (n2.frozen (p := ⟨D, j, none⟩) (World.block_lt_of_cell? w ⟨D, 0, none⟩ h.c0) (fun e => nD e.symm)).trans (h.fz j), n1, h.nD, h.hD, h.hN⟩, n2⟩
set_option maxRecDepth 100000 in
set_option maxHeartbeats 3200000 in
theorem wipe_any (w : World) (B D g N n : Nat) (xs : List Int) (h : DeskAt w B D (some ⟨g, 0, none⟩) N n xs) (hn : n ≤ N) :
    Calls Try.prog 19 #[.pointer (some ⟨D, 0, none⟩)] w fun e w' => e = .returned (.tuple #[]) ∧ (∃ ys, DeskAt w' B D (some ⟨g, 0, none⟩) N n ys) ∧ Ch (fun q => q = g) w w' := by
  have HH : Hid _ := h
  have hN := h.hN
  have c1 := h.c1
  clear h
  go_enter Try.func19, Try.ntmps19
  go_wp2
  go_loopw [2] (fun ix wr => ∃ (k : Nat) (ys : List Int), k ≤ n ∧ ix = .int .i64 k ∧ Hid (DeskAt wr B D (some ⟨g, 0, none⟩) N n ys ∧ Ch (fun q => q = g) w wr)) (fun ix _ => n - (intOf ix).toNat)
  case atStart => exact ⟨0, xs, Nat.zero_le _, rfl, HH.out, Ch.refl _ _⟩
  case round =>
    obtain ⟨k, ys, hk, rfl, ST⟩ := hrel
    clear c1
    have c1 := ST.out.1.c1
    by_cases hlt : k < n
    · obtain ⟨g', hg', z, cz, fz, NX⟩ := xor_step ST.out.1.own k (by omega)
      have e : g' = g := by simpa using hg'.symm
      subst e
      have k0 : (0 : Int) ≤ (k : Int) := by omega
      have k1 : (k : Int) < (N : Int) := by omega
      have k2 : ((k : Int)).toNat = k := by omega
      have k3 : k < N := by omega
      go_wp2
      refine MixH.start (fun x => x.cell? ⟨D, 0, none⟩ = some (.slice (some ⟨g', 0, none⟩) N N)) (by kernel_rfl) ?_
      obtain ⟨wA, hwA⟩ : ∃ wA, wA = wr.drew := ⟨_, rfl⟩
      have hS : wA.cell? ⟨D, 0, none⟩ = some (.slice (some ⟨g', 0, none⟩) N N) := by rw [hwA]; exact ST.out.1.c0
      have czA : wA.cell? ⟨g', k, none⟩ = some (.int .u8 z) := by rw [hwA]; exact cz
      have fzA : wA.frozen? ⟨g', k, none⟩ = false := by rw [hwA]; exact fz
      have SA : Hid (DeskAt wA B D (some ⟨g', 0, none⟩) N n ys ∧ Ch (fun q => q = g') w wA) := by
        rw [hwA]
        exact ⟨ST.out.1.below (Below.refl _ _).drew, ST.out.2.drew⟩
      rw [← hwA]
      clear hwA cz fz NX ST hg'
      refine MixH.takes [true, true, true, false, true, true, true, true, false, true] 7 (by kernel_rfl) (by kernel_rfl) (by decide) (by kernel_rfl) hS (fun K hK => ?_)
      simp only [Mix.pick]
      repeat (go_big_quiet_step (fail))
      refine wpQuiet_nil (hK _ ?_)
      clear hK K
      refine MixH.take 6 3 _ (.slice (some ⟨g', 0, none⟩) N N) rfl (by kernel_rfl) (by kernel_rfl) (by kernel_rfl) (by kernel_rfl) (yields_bytes (.tmp 13) rfl D 0 (.slice (some ⟨g', 0, none⟩) N N) rfl rfl (fun _ h => h)) hS (fun a' ha => ?_)
      simp only [Act.put, List.setIfInBounds_toArray, List.set_cons_succ, List.set_cons_zero] at ha
      subst ha
      refine MixH.take 5 8 _ (.slice (some ⟨g', 0, none⟩) N N) rfl (by kernel_rfl) (by kernel_rfl) (by kernel_rfl) (by kernel_rfl) (yields_bytes (.tmp 18) rfl D 0 (.slice (some ⟨g', 0, none⟩) N N) rfl rfl (fun _ h => h)) hS (fun a' ha => ?_)
      simp only [Act.put, List.setIfInBounds_toArray, List.set_cons_succ, List.set_cons_zero] at ha
      subst ha
      refine MixH.takes [false, false, false, false, false, false, false, false, false, false, true] 4 (by kernel_rfl) (by kernel_rfl) (by decide) (by kernel_rfl) hS (fun K hK => ?_)
      simp only [Mix.pick]
      repeat (go_big_quiet_step (fail))
      refine wpQuiet_nil (hK _ ?_)
      clear hK K
      refine MixH.one [false, false, false, false, false, false, false, false, false, false, false, true] 3 11 _ rfl rfl (by kernel_rfl) (by kernel_rfl) (fun K hK => ?_)
      simp only [Mix.pick]
      go_wp2
      refine ⟨rfl, hK _ _ hS ?_⟩
      clear hK K
      refine MixH.takes [false, false, false, false, false, false, false, false, false, false, false, false, true] 2 (by kernel_rfl) (by kernel_rfl) (by decide) (by kernel_rfl) hS (fun K hK => ?_)
      simp only [Mix.pick]
      repeat (go_big_quiet_step (fail))
      refine wpQuiet_nil (hK _ ?_)
      clear hK K
      refine MixH.takes [false, false, false, false, false, false, false, false, false, false, false, false, false, true] 1 (by kernel_rfl) (by kernel_rfl) (by decide) (by kernel_rfl) hS (fun K hK => ?_)
      simp only [Mix.pick]
      repeat (go_big_quiet_step (fail))
      refine wpQuiet_nil (hK _ ?_)
      clear hK K
      refine MixH.one [false, false, false, false, false, false, false, false, false, false, false, false, false, false, true] 0 14 _ rfl rfl (by kernel_rfl) (by kernel_rfl) (fun K hK => ?_)
      simp only [Mix.pick]
      obtain ⟨zs, T1, T2⟩ := SA.out.1.put k k3 (bits .xor .u8 z 255)
      have TN : Hid (DeskAt (wA.setCell ⟨g', k, none⟩ (.int .u8 (bits .xor .u8 z 255))) B D (some ⟨g', 0, none⟩) N n zs ∧ Ch (fun q => q = g') w (wA.setCell ⟨g', k, none⟩ (.int .u8 (bits .xor .u8 z 255)))) := ⟨T1, SA.out.2.trans T2 (fun _ _ e => e)⟩
      have hS2 := T1.c0
      clear hS T1 T2
      have hS := hS2
      clear hS2
      go_wp2
      refine ⟨rfl, hK _ _ hS ?_⟩
      clear hK K
      refine MixH.done (by kernel_rfl) ?_
      go_wp2
      go_roundw
      case rel => exact ⟨k + 1, _, by omega, by go_num, TN⟩
      case measure => simp [intOf]; omega
    · have hni : ¬ ((k : Int) < (n : Int)) := by omega
      clear hlt
      go_wp2
      go_end0
      exact ⟨rfl, ⟨ys, ST.out.1⟩, ST.out.2⟩
set_option maxRecDepth 100000 in
set_option maxHeartbeats 3200000 in
theorem back_any (w : World) (B D g N : Nat) (ba : Option Addr) (bc : Nat) (l : List Nat) (h : DeskAt w B D (some ⟨g, 0, none⟩) N l.length (toI (dk l N))) (hn : l.length ≤ N) (hs : Seg .u8 w ba (toI l)) (h256 : ∀ y ∈ l, y < 256) :
    Calls Try.prog 18 #[.pointer (some ⟨D, 0, none⟩), .slice ba l.length bc] w fun e w' => e = .returned (.bool true) ∧ Below w.heap.size w w' := by
  have HH : Hid _ := h
  have hN := h.hN
  have HSG : Hid (Seg .u8 w (some ⟨g, 0, none⟩) (toI l)) := by
    obtain ⟨a', c', e', sg, _⟩ := owns_seg h.own
    have ea := (Value.slice.inj e').1
    rw [← ea] at sg
    exact seg_pre sg
  have HSB : Hid (Seg .u8 w ba (toI l)) := hs
  have HC : Hid (∀ k, l.length ≤ k → k < N → ∀ x, Below w.heap.size w x → x.cell? ⟨g, k, none⟩ = some (.int .u8 ((bh k : Nat) : Int))) := fun k h1 h2 x hx => by
    have hd : (dk l N).length = N := dk_len l N hn
    rw [(h.below hx).own.cellAt k (by omega), List.getElem?_map]
    have e1 : (toI (dk l N))[k]? = some ((bh k : Nat) : Int) := by
      unfold toI
      rw [List.getElem?_map]
      have e2 : (dk l N)[k]? = some (bh k) := by
        unfold dk
        rw [List.getElem?_append_right h1, List.getElem?_drop, show l.length + (k - l.length) = k by omega]
        simp [h2]
      rw [e2]; rfl
    rw [e1]; rfl
  obtain ⟨n, hnn⟩ : ∃ n, n = l.length := ⟨_, rfl⟩
  have HN : Hid (l.length = n) := hnn.symm
  have HD : Hid (∀ x, Below w.heap.size w x → x.cell? ⟨D, 0, none⟩ = some (.slice (some ⟨g, 0, none⟩) N N) ∧ x.cell? ⟨D, 1, none⟩ = some (.int .i64 (n : Int))) := fun x hx => ⟨(h.below hx).c0, by rw [hnn]; exact (h.below hx).c1⟩
  have H256 : Hid _ := h256
  rw [← hnn] at hn HC ⊢
  clear h hs hnn h256
  have nN : (n : Int) ≤ (N : Int) := by omega
  go_enter Try.func18, Try.ntmps18
  go_wp2
  refine MixH.start (fun x => Below w.heap.size w x) (by kernel_rfl) ?_
  obtain ⟨wA, hwA⟩ : ∃ wA, wA = w.drew := ⟨_, rfl⟩
  have hS : Below w.heap.size w wA := by rw [hwA]; exact (Below.refl _ _).drew
  have Q : Hid _ := alike_any (some ⟨g, 0, none⟩) ba N bc l l wA (HSG.out.old hS) (HSB.out.old hS) H256.out H256.out
  rw [decide_eq_true rfl, HN.out] at Q
  rw [← hwA]
  clear hwA
  refine MixH.takes [true, true, true, false, true, true] 16 (by kernel_rfl) (by kernel_rfl) (by decide) (by kernel_rfl) hS (fun K hK => ?_)
  simp only [Mix.pick]
  repeat (go_big_quiet_step (fail))
  refine wpQuiet_nil (hK _ ?_)
  clear hK K
  refine MixH.take 15 3 _ (.int .i64 (n : Int)) rfl (by kernel_rfl) (by kernel_rfl) (by kernel_rfl) (by kernel_rfl) (yields_int (.tmp 8) rfl D 1 (.int .i64 (n : Int)) rfl rfl (fun x h => (HD.out x h).2)) hS (fun a' ha => ?_)
  simp only [Act.put, List.setIfInBounds_toArray, List.set_cons_succ, List.set_cons_zero] at ha
  subst ha
  refine MixH.takes [false, false, false, false, false, false, true, true] 13 (by kernel_rfl) (by kernel_rfl) (by decide) (by kernel_rfl) hS (fun K hK => ?_)
  simp only [Mix.pick]
  repeat (go_big_quiet_step (fail))
  refine wpQuiet_nil (hK _ ?_)
  clear hK K
  refine MixH.takes [false, false, false, false, false, false, false, false, true, true, true, false, true, true, true, false, false, true] 6 (by kernel_rfl) (by kernel_rfl) (by decide) (by kernel_rfl) hS (fun K hK => ?_)
  simp only [Mix.pick]
  repeat (go_big_quiet_step (fail))
  refine wpQuiet_nil (hK _ ?_)
  clear hK K
  refine MixH.take 5 11 _ (.slice (some ⟨g, 0, none⟩) N N) rfl (by kernel_rfl) (by kernel_rfl) (by kernel_rfl) (by kernel_rfl) (yields_bytes (.tmp 16) rfl D 0 (.slice (some ⟨g, 0, none⟩) N N) rfl rfl (fun x h => (HD.out x h).1)) hS (fun a' ha => ?_)
  simp only [Act.put, List.setIfInBounds_toArray, List.set_cons_succ, List.set_cons_zero] at ha
  subst ha
  refine MixH.take 4 15 _ (.int .i64 (n : Int)) rfl (by kernel_rfl) (by kernel_rfl) (by kernel_rfl) (by kernel_rfl) (yields_int (.tmp 20) rfl D 1 (.int .i64 (n : Int)) rfl rfl (fun x h => (HD.out x h).2)) hS (fun a' ha => ?_)
  simp only [Act.put, List.setIfInBounds_toArray, List.set_cons_succ, List.set_cons_zero] at ha
  subst ha
  refine MixH.takes [false, false, false, false, false, false, false, false, false, false, false, false, false, false, false, false, true] 3 (by kernel_rfl) (by kernel_rfl) (by decide) (by kernel_rfl) hS (fun K hK => ?_)
  simp only [Mix.pick]
  repeat (go_big_quiet_step (fail))
  refine wpQuiet_nil (hK _ ?_)
  clear hK K
  refine MixH.one [false, false, false, false, false, false, false, false, false, false, false, false, false, false, false, false, false, false, true] 2 18 _ rfl rfl (by kernel_rfl) (by kernel_rfl) (fun K hK => ?_)
  simp only [Mix.pick]
  go_wp2_with fail
  refine Calls.mono Q.out ?_
  rintro e wN ⟨rfl, rfl⟩
  clear Q
  go_wp2
  refine ⟨rfl, hK _ _ hS ?_⟩
  clear hK K
  refine MixH.takes [false, false, false, false, false, false, false, false, false, false, false, false, false, false, false, false, false, false, false, true, true] 0 (by kernel_rfl) (by kernel_rfl) (by decide) (by kernel_rfl) hS (fun K hK => ?_)
  simp only [Mix.pick]
  repeat (go_big_quiet_step (fail))
  refine wpQuiet_nil (hK _ ?_)
  clear hK K
  refine MixH.done (by kernel_rfl) ?_
  have c1 := (HD.out wA hS).2
  go_wp2
  obtain ⟨wz, hwz⟩ : ∃ wz, wz = wA := ⟨_, rfl⟩
  go_loopw [5] (fun ix wr => ∃ k : Nat, n ≤ k ∧ k ≤ N ∧ ix = .int .i64 k ∧ Below w.heap.size w wr) (fun ix _ => N - (intOf ix).toNat)
  case atStart => exact ⟨n, Nat.le_refl _, hn, rfl, hS⟩
  case round =>
    obtain ⟨k, hk1, hk2, rfl, hb⟩ := hrel
    have c0 := (HD.out wr hb).1
    clear c1
    by_cases hlt : k < N
    · have k0 : (0 : Int) ≤ (k : Int) := by omega
      have k1 : (k : Int) < (N : Int) := by omega
      have k2 : ((k : Int)).toNat = k := by omega
      obtain ⟨y, hy⟩ : ∃ y, y = bh k := ⟨_, rfl⟩
      have hC := HC.out k hk1 hlt
      rw [← hy] at hC
      have HCk : Hid _ := hC
      have QM : Hid (∀ x, Calls Try.prog 46 #[.int .i64 (k : Int)] x fun e w' => e = .returned (.int .u8 (y : Int)) ∧ x = w') := fun x => by rw [hy]; exact mark_any k x (by omega)
      have hq : ((y : Int) != (y : Int)) = false := by simp
      clear hC hy
      go_wp2
      refine MixH.start (fun x => Below w.heap.size w x) (by kernel_rfl) ?_
      obtain ⟨wB, hwB⟩ : ∃ wB, wB = wr.drew := ⟨_, rfl⟩
      clear hS
      have hS : Below w.heap.size w wB := by rw [hwB]; exact hb.drew
      rw [← hwB]
      clear hwB hb c0
      refine MixH.takes [true, true, true, false, true, false, false, true] 5 (by kernel_rfl) (by kernel_rfl) (by decide) (by kernel_rfl) hS (fun K hK => ?_)
      simp only [Mix.pick]
      repeat (go_big_quiet_step (fail))
      refine wpQuiet_nil (hK _ ?_)
      clear hK K
      refine MixH.take 4 3 _ (.slice (some ⟨g, 0, none⟩) N N) rfl (by kernel_rfl) (by kernel_rfl) (by kernel_rfl) (by kernel_rfl) (yields_bytes (.tmp 42) rfl D 0 (.slice (some ⟨g, 0, none⟩) N N) rfl rfl (fun x h => (HD.out x h).1)) hS (fun a' ha => ?_)
      simp only [Act.put, List.setIfInBounds_toArray, List.set_cons_succ, List.set_cons_zero] at ha
      subst ha
      refine MixH.takes [false, false, false, false, false, true] 3 (by kernel_rfl) (by kernel_rfl) (by decide) (by kernel_rfl) hS (fun K hK => ?_)
      simp only [Mix.pick]
      repeat (go_big_quiet_step (fail))
      refine wpQuiet_nil (hK _ ?_)
      clear hK K
      refine MixH.take 2 6 _ (.int .u8 (y : Int)) rfl (by kernel_rfl) (by kernel_rfl) (by kernel_rfl) (by kernel_rfl) (yields_u8 (.tmp 45) rfl g k (.int .u8 (y : Int)) rfl rfl (fun x h => HCk.out x h)) hS (fun a' ha => ?_)
      simp only [Act.put, List.setIfInBounds_toArray, List.set_cons_succ, List.set_cons_zero] at ha
      subst ha
      refine MixH.one [false, false, false, false, false, false, false, false, true] 1 8 _ rfl rfl (by kernel_rfl) (by kernel_rfl) (fun K hK => ?_)
      simp only [Mix.pick]
      go_wp2_with fail
      refine Calls.mono (QM.out wB) ?_
      rintro e wN ⟨rfl, rfl⟩
      clear QM
      go_wp2
      refine ⟨rfl, hK _ _ hS ?_⟩
      clear hK K
      refine MixH.takes [false, false, false, false, false, false, false, false, false, true] 0 (by kernel_rfl) (by kernel_rfl) (by decide) (by kernel_rfl) hS (fun K hK => ?_)
      simp only [Mix.pick]
      repeat (go_big_quiet_step (fail))
      refine wpQuiet_nil (hK _ ?_)
      clear hK K
      refine MixH.done (by kernel_rfl) ?_
      go_wp2
      go_roundw
      case rel => exact ⟨k + 1, by omega, by omega, by go_num, hS⟩
      case measure => simp [intOf]; omega
    · have hni : ¬ ((k : Int) < (N : Int)) := by omega
      clear hlt
      go_wp2
      go_ret
      exact ⟨rfl, hb⟩
end Go.Proofs.Ythknkfggpdhdbaa.Dk
namespace Go.Proofs.Ythknkfggpdhdbaa.Dk
open Go.RowKit

theorem DeskAt.set {w : World} {B D N n g : Nat} {xs : List Int} (h : DeskAt w B D (some ⟨g, 0, none⟩) N n xs) (k : Nat) (hk : k < N) (y : Int) : DeskAt (w.setCell ⟨g, k, none⟩ (.int .u8 y)) B D (some ⟨g, 0, none⟩) N n (xs.set k y) ∧ Ch (fun q => q = g) w (w.setCell ⟨g, k, none⟩ (.int .u8 y)) := by
  obtain ⟨g2, hg2, z2, _, _, NX⟩ := xor_step h.own k hk
  have e2 : g2 = g := by simpa using hg2.symm
  subst e2
  obtain ⟨n1, n2⟩ := NX (.int .u8 y) y rfl
  have nD := h.nD _ rfl
  exact ⟨⟨n2.cell h.c0 (fun e => nD e.symm), n2.cell h.c1 (fun e => nD e.symm), fun j => (n2.frozen (p := ⟨D, j, none⟩) (World.block_lt_of_cell? w ⟨D, 0, none⟩ h.c0) (fun e => nD e.symm)).trans (h.fz j), n1, h.nD, h.hD, h.hN⟩, n2⟩
/-- the room's first k cells bear their marks -/
structure Ld (w wr : World) (B D : Nat) (a : Option Addr) (g M n k : Nat) : Prop where
  at_ : ∃ ys : List Int, DeskAt wr B D (some ⟨g, 0, none⟩) M n ys ∧ ∀ j, j < k → ys[j]? = some ((bh j : Nat) : Int)
  ch : Ch (dB D a) w wr
  old : dB D a g ∨ w.heap.size ≤ g
theorem Ld.drew {w wr : World} {B D : Nat} {a : Option Addr} {g M n k : Nat} (h : Ld w wr B D a g M n k) : Ld w wr.drew B D a g M n k := by
  obtain ⟨ys, h1, h2⟩ := h.at_
  exact ⟨⟨ys, h1.below (Below.refl _ _).drew, h2⟩, h.ch.drew, h.old⟩
theorem Ld.c0 {w wr : World} {B D : Nat} {a : Option Addr} {g M n k : Nat} (h : Ld w wr B D a g M n k) : wr.cell? ⟨D, 0, none⟩ = some (.slice (some ⟨g, 0, none⟩) M M) := by
  obtain ⟨ys, h1, _⟩ := h.at_; exact h1.c0
theorem Ld.next {w wr : World} {B D : Nat} {a : Option Addr} {g M n k : Nat} (h : Ld w wr B D a g M n k) (hk : k < M) : (∃ z : Int, wr.cell? ⟨g, k, none⟩ = some (.int .u8 z)) ∧ wr.frozen? ⟨g, k, none⟩ = false ∧ Ld w (wr.setCell ⟨g, k, none⟩ (.int .u8 ((bh k : Nat) : Int))) B D a g M n (k + 1) := by
  obtain ⟨ys, h1, h2⟩ := h.at_
  obtain ⟨g2, hg2, z2, cz, fz, _⟩ := xor_step h1.own k hk
  have e2 : g2 = g := by simpa using hg2.symm
  subst e2
  obtain ⟨n1, n2⟩ := h1.set k hk ((bh k : Nat) : Int)
  have hl : ys.length = M := by have := h1.own.1; simpa using this
  refine ⟨⟨z2, cz⟩, fz, ⟨_, n1, fun j hj => ?_⟩, ?_, h.old⟩
  · rcases Nat.lt_succ_iff_lt_or_eq.1 hj with e | e
    · rw [List.getElem?_set_ne (by omega)]; exact h2 j e
    · subst e; rw [List.getElem?_set_self (by omega)]
  · refine h.ch.trans n2 (fun x hx e => ?_)
    rcases h.old with o | o
    · rw [e]; exact o
    · omega
theorem Ld.all {w wr : World} {B D : Nat} {a : Option Addr} {g M n : Nat} (h : Ld w wr B D a g M n M) : DeskAt wr B D (some ⟨g, 0, none⟩) M n (toI ((List.range M).map bh)) := by
  obtain ⟨ys, h1, h2⟩ := h.at_
  have hl : ys.length = M := by have := h1.own.1; simpa using this
  have e : ys = toI ((List.range M).map bh) := by
    refine List.ext_getElem? (fun j => ?_)
    by_cases hj : j < M
    · rw [h2 j hj]; simp [toI, hj]
    · rw [List.getElem?_eq_none (by omega), List.getElem?_eq_none (by simp [toI]; omega)]
  rw [← e]; exact h1
/-- what Lend leaves -/
structure Lent (w w' : World) (B D : Nat) (a : Option Addr) (g M : Nat) (l : List Nat) : Prop where
  desk : DeskAt w' B D (some ⟨g, 0, none⟩) M l.length (toI (dk l M))
  ch : Ch (dB D a) w w'
  old : dB D a g ∨ w.heap.size ≤ g
  le : l.length ≤ M
  big : 70 ≤ M
theorem Lent.of {w wr w3 : World} {B D : Nat} {a : Option Addr} {g M n : Nat} {l : List Nat} (h : Ld w wr B D a g M n M) (hM : l.length ≤ M) (h70 : 70 ≤ M) (hg : w3.heap[g]? = some (.cells (splice ((toI ((List.range M).map bh)).map (Value.int .u8)) 0 ((toI l).map (Value.int .u8))).toArray 5 (0, 0))) (k : Ch (fun q => q = g) wr w3) :
    w3.cell? ⟨D, 0, none⟩ = some (.slice (some ⟨g, 0, none⟩) M M) ∧ w3.cell? ⟨D, 1, none⟩ = some (.int .i64 (n : Int)) ∧ w3.frozen? ⟨D, 1, none⟩ = false ∧ Lent w (w3.setCell ⟨D, 1, none⟩ (.int .i64 (l.length : Int))) B D a g M l := by
  have hA := h.all
  have nD := hA.nD _ rfl
  have hB : B ≤ g := (form0 hA.own).2.1
  have c0 := k.cell hA.c0 (fun e => nD e.symm)
  have c1 := k.cell hA.c1 (fun e => nD e.symm)
  have fz : ∀ j, w3.frozen? ⟨D, j, none⟩ = false := fun j => (k.frozen (p := ⟨D, j, none⟩) (World.block_lt_of_cell? _ ⟨D, 0, none⟩ hA.c0) (fun e => nD e.symm)).trans (hA.fz j)
  have hdl := dk_len l M hM
  have e : splice ((toI ((List.range M).map bh)).map (Value.int .u8)) 0 ((toI l).map (Value.int .u8)) = (toI (dk l M)).map (Value.int .u8) := by
    simp [splice, dk, toI]
  rw [e] at hg
  have own : w3.ownsRow B 5 1 (.slice (some ⟨g, 0, none⟩) M M) M ((toI (dk l M)).map (Value.int .u8)) := to_own hg hB (by simp [toI, hdl]) (by have := hA.hN; unfold maxLen; omega)
  have kS : Ch (fun q => q = D) w3 (w3.setCell ⟨D, 1, none⟩ (.int .i64 (l.length : Int))) := (Ch.refl _ _).set _ _ rfl
  refine ⟨c0, c1, fz 1, ⟨?_, World.cell?_setCell_same _ _ _ c1, fun j => ?_, ?_, hA.nD, hA.hD, hA.hN⟩, ?_, h.old, hM, h70⟩
  · rw [World.cell?_setCell_other _ _ _ _ (by simp)]; exact c0
  · rw [World.frozen?_setCell]; exact fz j
  · refine kS.owns own (fun q hq => ?_)
    have : g = q := by simpa [Value.ownBlock] using hq
    subst this
    exact nD
  · refine (h.ch.trans k (fun x hx e => ?_)).trans kS (fun x hx e => .inl e)
    rcases h.old with o | o
    · rw [e]; exact o
    · omega
theorem ld_new {w w1 : World} {B D : Nat} {a : Option Addr} {N n0 M : Nat} {xs : List Int} (h : DeskAt w B D a N n0 xs) (hB : B ≤ w.heap.size) (hM : M ≤ 2097664) (hgr : w.grownBy w1 none) (hown : w1.ownsRow w.heap.size 5 1 (.slice (some ⟨w.heap.size, 0, none⟩) M M) M (List.replicate M (.int .u8 0))) : Ld w (w1.setCell ⟨D, 0, none⟩ (.slice (some ⟨w.heap.size, 0, none⟩) M M)) B D a w.heap.size M n0 0 := by
  have hDl := World.block_lt_of_cell? w ⟨D, 0, none⟩ h.c0
  have c0 : w1.cell? ⟨D, 0, none⟩ = some (.slice a N N) := hgr.cell h.c0 (by simp)
  have c1 : w1.cell? ⟨D, 1, none⟩ = some (.int .i64 (n0 : Int)) := hgr.cell h.c1 (by simp)
  have fz : ∀ j, w1.frozen? ⟨D, j, none⟩ = false := fun j => by rw [World.frozen?_of_block (hgr.block D hDl (by simp))]; exact h.fz j
  have kS : Ch (fun q => q = D) w1 (w1.setCell ⟨D, 0, none⟩ (.slice (some ⟨w.heap.size, 0, none⟩) M M)) := (Ch.refl _ _).set _ _ rfl
  have own : w1.ownsRow B 5 1 (.slice (some ⟨w.heap.size, 0, none⟩) M M) M ((List.replicate M (0 : Int)).map (Value.int .u8)) := by
    rw [List.map_replicate]; exact owns_mono hown hB
  refine ⟨⟨List.replicate M 0, ⟨World.cell?_setCell_same _ _ _ c0, ?_, fun j => ?_, kS.owns own (fun q hq => ?_), fun g hg => ?_, h.hD, hM⟩, fun j hj => absurd hj (Nat.not_lt_zero _)⟩, ?_, .inr (Nat.le_refl _)⟩
  · rw [World.cell?_setCell_other _ _ _ _ (by simp)]; exact c1
  · rw [World.frozen?_setCell]; exact fz j
  · have : w.heap.size = q := by simpa [Value.ownBlock] using hq
    simp only at hDl
    omega
  · have : w.heap.size = g := by simpa using hg
    simp only at hDl
    omega
  · exact ((Ch.ofGrown hgr).mono (fun _ _ e => by cases e)).trans kS (fun x _ e => .inl e)

set_option maxRecDepth 100000 in
set_option maxHeartbeats 3200000 in
theorem lend_no (w : World) (B D : Nat) (a : Option Addr) (N n0 : Nat) (xs : List Int) (h : DeskAt w B D a N n0 xs) (ba : Option Addr) (bc : Nat) (l : List Nat) (hs : ∀ x, Below B w x → Seg .u8 x ba (toI l)) (hl : l.length ≤ 1048576) (hBw : B ≤ w.heap.size) (ht : 2 * l.length + 70 ≤ N) :
    Calls Try.prog 17 #[.pointer (some ⟨D, 0, none⟩), .slice ba l.length bc] w fun e w' => ∃ g M, e = .returned (.slice (some ⟨g, 0, none⟩) l.length M) ∧ Lent w w' B D a g M l := by
  have HS : Hid (∀ x, Below B w x → Seg .u8 x ba (toI l)) := hs
  obtain ⟨n, hn⟩ : ∃ n, n = l.length := ⟨_, rfl⟩
  have HN : Hid (l.length = n) := hn.symm
  have HB : Hid (∀ q, dB D a q → B ≤ q) := fun q hq => by
    rcases hq with e | ⟨y, e1, e2⟩
    · rw [e]; exact h.hD
    · rcases h.own.2 with ⟨e, _⟩ | ⟨g, cap, cur, e, hb, _⟩
      · rw [e1] at e; cases e
      · have e3 := (Value.slice.inj e).1
        rw [e1] at e3
        cases e3
        rw [← e2]; exact hb
  have hN := h.hN
  obtain ⟨g, rfl⟩ : ∃ g, a = some ⟨g, 0, none⟩ := by
    rcases h.own.2 with ⟨e, e0⟩ | ⟨g, cap, cur, e, _⟩
    · omega
    · exact ⟨g, (Value.slice.inj e).1⟩
  obtain ⟨M, hM⟩ : ∃ M, M = N := ⟨_, rfl⟩
  rw [← hM] at h ht hN
  rw [← hn] at ht hl ⊢
  obtain ⟨a, ha⟩ : ∃ a, a = (some ⟨g, 0, none⟩ : Option Addr) := ⟨_, rfl⟩
  have L0 : Hid (Ld w w B D a g M n0 0) := ⟨⟨xs, h, fun j hj => absurd hj (Nat.not_lt_zero _)⟩, Ch.refl _ _, by rw [ha]; exact .inl (.inr ⟨_, rfl, rfl⟩)⟩
  rw [← ha] at HB ⊢
  have c0 := h.c0
  have h70 : 70 ≤ M := by omega
  have hnM : n ≤ M := by omega
  have hd : ¬ ((M : Int) < 2 * (n : Int) + 70) := by omega
  have e1 : IntKind.i64.wrap (2 * (n : Int)) = 2 * (n : Int) := i64_mid _ (by omega) (by omega)
  have e2 : IntKind.i64.wrap (2 * (n : Int) + 70) = 2 * (n : Int) + 70 := i64_mid _ (by omega) (by omega)
  clear h hs hn hM ha
  go_enter Try.func17, Try.ntmps17
  go_wp2
  go_loopw [5] (fun ix wr => ∃ k : Nat, k ≤ M ∧ ix = .int .i64 k ∧ Hid (Ld w wr B D a g M n0 k)) (fun ix _ => M - (intOf ix).toNat)
  case atStart => exact ⟨0, Nat.zero_le _, rfl, L0⟩
  case round =>
    obtain ⟨k, hk, rfl, ST⟩ := hrel
    clear L0 c0
    have c0 := ST.out.c0
    by_cases hlt : k < M
    · have k0 : (0 : Int) ≤ (k : Int) := by omega
      have k1 : (k : Int) < (M : Int) := by omega
      have k2 : ((k : Int)).toNat = k := by omega
      obtain ⟨y, hy⟩ : ∃ y, y = bh k := ⟨_, rfl⟩
      have QM : Hid (∀ x, Calls Try.prog 46 #[.int .i64 (k : Int)] x fun e w' => e = .returned (.int .u8 (y : Int)) ∧ x = w') := fun x => by rw [hy]; exact mark_any k x (by omega)
      have HY : Hid (bh k = y) := hy.symm
      clear hy
      go_wp2
      refine MixH.start (fun x => x.cell? ⟨D, 0, none⟩ = some (.slice (some ⟨g, 0, none⟩) M M)) (by kernel_rfl) ?_
      obtain ⟨wA, hwA⟩ : ∃ wA, wA = wr.drew := ⟨_, rfl⟩
      have SA : Hid (Ld w wA B D a g M n0 k) := by rw [hwA]; exact ST.out.drew
      have hS := SA.out.c0
      rw [← hwA]
      clear hwA ST c0
      refine MixH.takes [true, true, true, false, true, true] 4 (by kernel_rfl) (by kernel_rfl) (by decide) (by kernel_rfl) hS (fun K hK => ?_)
      simp only [Mix.pick]
      repeat (go_big_quiet_step (fail))
      refine wpQuiet_nil (hK _ ?_)
      clear hK K
      refine MixH.take 3 3 _ (.slice (some ⟨g, 0, none⟩) M M) rfl (by kernel_rfl) (by kernel_rfl) (by kernel_rfl) (by kernel_rfl) (yields_bytes (.tmp 35) rfl D 0 (.slice (some ⟨g, 0, none⟩) M M) rfl rfl (fun _ h => h)) hS (fun a' ha => ?_)
      simp only [Act.put, List.setIfInBounds_toArray, List.set_cons_succ, List.set_cons_zero] at ha
      subst ha
      refine MixH.one [false, false, false, false, false, false, true] 2 6 _ rfl rfl (by kernel_rfl) (by kernel_rfl) (fun K hK => ?_)
      simp only [Mix.pick]
      go_wp2_with fail
      refine Calls.mono (QM.out wA) ?_
      rintro e wN ⟨rfl, rfl⟩
      clear QM
      go_wp2
      refine ⟨rfl, hK _ _ hS ?_⟩
      clear hK K
      refine MixH.takes [false, false, false, false, false, false, false, true] 1 (by kernel_rfl) (by kernel_rfl) (by decide) (by kernel_rfl) hS (fun K hK => ?_)
      simp only [Mix.pick]
      repeat (go_big_quiet_step (fail))
      refine wpQuiet_nil (hK _ ?_)
      clear hK K
      refine MixH.one [false, false, false, false, false, false, false, false, true] 0 8 _ rfl rfl (by kernel_rfl) (by kernel_rfl) (fun K hK => ?_)
      simp only [Mix.pick]
      obtain ⟨⟨z, cz⟩, fz, TNN⟩ := SA.out.next hlt
      rw [HY.out] at TNN
      have TN : Hid (Ld w (wA.setCell ⟨g, k, none⟩ (.int .u8 (y : Int))) B D a g M n0 (k + 1)) := TNN
      clear hS
      have hS := TNN.c0
      clear TNN
      go_wp2
      refine ⟨rfl, hK _ _ hS ?_⟩
      clear hK K
      refine MixH.done (by kernel_rfl) ?_
      go_wp2
      go_roundw
      case rel => exact ⟨k + 1, by omega, by go_num, TN⟩
      case measure => simp [intOf]; omega
    · have hni : ¬ ((k : Int) < (M : Int)) := by omega
      have hkM : k = M := by omega
      clear hlt
      have HLD : Hid (Ld w wr B D a g M n0 M) := by have e := ST.out; rw [hkM] at e; exact e
      have hA := HLD.out.all
      have hg2 := (form0 hA.own).1
      have hSG := HS.out wr (HLD.out.ch.below HB.out hBw)
      obtain ⟨cur, hcur⟩ : ∃ cur, cur = (toI ((List.range M).map bh)).map (Value.int .u8) := ⟨_, rfl⟩
      obtain ⟨cs, hcs⟩ : ∃ cs, cs = (toI l).map (Value.int .u8) := ⟨_, rfl⟩
      rw [← hcur] at hg2
      have HSC : Hid (0 < cs.length → ∃ ad, ba = some ad ∧ ∀ j v, cs[j]? = some v → wr.cell? (ad.add j) = some v) := by rw [hcs]; exact seg_cells hSG
      have HCL : Hid (cs.length = n) := by rw [hcs, ← HN.out]; show _ = _; simp [toI]
      have HUL : Hid (cur.length = M) := by rw [hcur]; show _ = _; simp [toI]
      have HC1 : Hid (∀ v ∈ cs, v.oneCell' = true) := by
        rw [hcs]; intro v hv
        obtain ⟨z, _, rfl⟩ := List.mem_map.1 hv
        rfl
      have HCU : Hid (cur = (toI ((List.range M).map bh)).map (Value.int .u8)) := hcur
      have HCS : Hid (cs = (toI l).map (Value.int .u8)) := hcs
      clear hA hSG hcur hcs hkM ST
      go_wp2_with (first | (refine wpList_copy_ch rfl _ _ 43 43 rfl 5 Try.underlying43 Try.sizeByte _ _ _ _ _ _ rfl rfl g 0 cur 5 hg2 cs (by rw [HCL.out]; show n = min n M; omega) (fun h0 => ⟨rfl, HSC.out h0⟩) (by rw [HCL.out, HUL.out]; omega) HC1.out ?_))
      intro w3 HG3 k5
      have hg3 := HG3.out
      rw [HCU.out, HCS.out] at hg3
      obtain ⟨d0, d1, dz, LT⟩ := Lent.of HLD.out (by rw [HN.out]; omega) h70 hg3 k5
      rw [HN.out] at LT
      have HLT : Hid (Lent w (w3.setCell ⟨D, 1, none⟩ (.int .i64 (n : Int))) B D a g M l) := LT
      have e0 := LT.desk.c0
      clear LT hg3 k5 HG3 hg2 c0
      go_wp2
      go_ret
      exact ⟨g, M, rfl, HLT.out⟩

set_option maxRecDepth 100000 in
set_option maxHeartbeats 3200000 in
theorem lend_yes (w : World) (B D : Nat) (a : Option Addr) (N n0 : Nat) (xs : List Int) (h : DeskAt w B D a N n0 xs) (ba : Option Addr) (bc : Nat) (l : List Nat) (hs : ∀ x, Below B w x → Seg .u8 x ba (toI l)) (hl : l.length ≤ 1048576) (hBw : B ≤ w.heap.size) (ht : N < 2 * l.length + 70) :
    Calls Try.prog 17 #[.pointer (some ⟨D, 0, none⟩), .slice ba l.length bc] w fun e w' => ∃ g M, e = .returned (.slice (some ⟨g, 0, none⟩) l.length M) ∧ Lent w w' B D a g M l := by
  have HS : Hid (∀ x, Below B w x → Seg .u8 x ba (toI l)) := hs
  obtain ⟨n, hn⟩ : ∃ n, n = l.length := ⟨_, rfl⟩
  have HN : Hid (l.length = n) := hn.symm
  have HB : Hid (∀ q, dB D a q → B ≤ q) := fun q hq => by
    rcases hq with e | ⟨y, e1, e2⟩
    · rw [e]; exact h.hD
    · rcases h.own.2 with ⟨e, _⟩ | ⟨g, cap, cur, e, hb, _⟩
      · rw [e1] at e; cases e
      · have e3 := (Value.slice.inj e).1
        rw [e1] at e3
        cases e3
        rw [← e2]; exact hb
  rw [← hn] at ht hl ⊢
  obtain ⟨M, hM⟩ : ∃ M, M = 2 * n + 512 := ⟨_, rfl⟩
  obtain ⟨g, hg⟩ : ∃ g, g = w.heap.size := ⟨_, rfl⟩
  obtain ⟨i0, hii, hz0, hz1, hz2⟩ := info_parts Try.infoByte
  have h70 : 70 ≤ M := by omega
  have hnM : n ≤ M := by omega
  have c0 := h.c0
  have f0 := h.fz 0
  have hd : (N : Int) < 2 * (n : Int) + 70 := by omega
  have e1 : IntKind.i64.wrap (2 * (n : Int)) = 2 * (n : Int) := i64_mid _ (by omega) (by omega)
  have e2 : IntKind.i64.wrap (2 * (n : Int) + 70) = 2 * (n : Int) + 70 := i64_mid _ (by omega) (by omega)
  have e3 : IntKind.i64.wrap (2 * (n : Int) + 512) = (M : Int) := by rw [i64_mid _ (by omega) (by omega)]; omega
  have HH : Hid (DeskAt w B D a N n0 xs) := h
  have HM : Hid (M = 2 * n + 512) := hM
  have HG : Hid (g = w.heap.size) := hg
  have hM2 : M ≤ 2097664 := by omega
  clear h hs hn hM
  go_enter Try.func17, Try.ntmps17
  go_wp2_with (first | (at_make; refine wpList_make_full _ rfl _ _ 43 rfl w.heap.size 5 i0 (.int .u8 0) 1 Try.underlying43 hii hz0 hz1 .i64 .i64 _ _ M rfl rfl rfl rfl (by rw [hz2]; omega) (by unfold maxLen; omega) (Nat.le_refl _) ?_))
  intro w1 hown hgr
  rw [toList_madeCells_one] at hown
  have hDl := World.block_lt_of_cell? w ⟨D, 0, none⟩ c0
  have c1' : w1.cell? ⟨D, 0, none⟩ = some (.slice a N N) := hgr.cell c0 (by simp)
  have f1' : w1.frozen? ⟨D, 0, none⟩ = false := by rw [World.frozen?_of_block (hgr.block D hDl (by simp))]; exact f0
  have L0 : Hid (Ld w (w1.setCell ⟨D, 0, none⟩ (.slice (some ⟨w.heap.size, 0, none⟩) M M)) B D a w.heap.size M n0 0) := ld_new HH.out hBw hM2 hgr hown
  clear c0 f0
  have c0 := L0.out.c0
  rw [← hg] at L0 c0 ⊢
  clear hown hgr hg hDl
  go_wp2
  go_loopw [5] (fun ix wr => ∃ k : Nat, k ≤ M ∧ ix = .int .i64 k ∧ Hid (Ld w wr B D a g M n0 k)) (fun ix _ => M - (intOf ix).toNat)
  case atStart => exact ⟨0, Nat.zero_le _, rfl, L0⟩
  case round =>
    obtain ⟨k, hk, rfl, ST⟩ := hrel
    clear L0 c0
    have c0 := ST.out.c0
    by_cases hlt : k < M
    · have k0 : (0 : Int) ≤ (k : Int) := by omega
      have k1 : (k : Int) < (M : Int) := by omega
      have k2 : ((k : Int)).toNat = k := by omega
      obtain ⟨y, hy⟩ : ∃ y, y = bh k := ⟨_, rfl⟩
      have QM : Hid (∀ x, Calls Try.prog 46 #[.int .i64 (k : Int)] x fun e w' => e = .returned (.int .u8 (y : Int)) ∧ x = w') := fun x => by rw [hy]; exact mark_any k x (by omega)
      have HY : Hid (bh k = y) := hy.symm
      clear hy
      go_wp2
      refine MixH.start (fun x => x.cell? ⟨D, 0, none⟩ = some (.slice (some ⟨g, 0, none⟩) M M)) (by kernel_rfl) ?_
      obtain ⟨wA, hwA⟩ : ∃ wA, wA = wr.drew := ⟨_, rfl⟩
      have SA : Hid (Ld w wA B D a g M n0 k) := by rw [hwA]; exact ST.out.drew
      have hS := SA.out.c0
      rw [← hwA]
      clear hwA ST c0
      refine MixH.takes [true, true, true, false, true, true] 4 (by kernel_rfl) (by kernel_rfl) (by decide) (by kernel_rfl) hS (fun K hK => ?_)
      simp only [Mix.pick]
      repeat (go_big_quiet_step (fail))
      refine wpQuiet_nil (hK _ ?_)
      clear hK K
      refine MixH.take 3 3 _ (.slice (some ⟨g, 0, none⟩) M M) rfl (by kernel_rfl) (by kernel_rfl) (by kernel_rfl) (by kernel_rfl) (yields_bytes (.tmp 35) rfl D 0 (.slice (some ⟨g, 0, none⟩) M M) rfl rfl (fun _ h => h)) hS (fun a' ha => ?_)
      simp only [Act.put, List.setIfInBounds_toArray, List.set_cons_succ, List.set_cons_zero] at ha
      subst ha
      refine MixH.one [false, false, false, false, false, false, true] 2 6 _ rfl rfl (by kernel_rfl) (by kernel_rfl) (fun K hK => ?_)
      simp only [Mix.pick]
      go_wp2_with fail
      refine Calls.mono (QM.out wA) ?_
      rintro e wN ⟨rfl, rfl⟩
      clear QM
      go_wp2
      refine ⟨rfl, hK _ _ hS ?_⟩
      clear hK K
      refine MixH.takes [false, false, false, false, false, false, false, true] 1 (by kernel_rfl) (by kernel_rfl) (by decide) (by kernel_rfl) hS (fun K hK => ?_)
      simp only [Mix.pick]
      repeat (go_big_quiet_step (fail))
      refine wpQuiet_nil (hK _ ?_)
      clear hK K
      refine MixH.one [false, false, false, false, false, false, false, false, true] 0 8 _ rfl rfl (by kernel_rfl) (by kernel_rfl) (fun K hK => ?_)
      simp only [Mix.pick]
      obtain ⟨⟨z, cz⟩, fz, TNN⟩ := SA.out.next hlt
      rw [HY.out] at TNN
      have TN : Hid (Ld w (wA.setCell ⟨g, k, none⟩ (.int .u8 (y : Int))) B D a g M n0 (k + 1)) := TNN
      clear hS
      have hS := TNN.c0
      clear TNN
      go_wp2
      refine ⟨rfl, hK _ _ hS ?_⟩
      clear hK K
      refine MixH.done (by kernel_rfl) ?_
      go_wp2
      go_roundw
      case rel => exact ⟨k + 1, by omega, by go_num, TN⟩
      case measure => simp [intOf]; omega
    · have hni : ¬ ((k : Int) < (M : Int)) := by omega
      have hkM : k = M := by omega
      clear hlt
      have HLD : Hid (Ld w wr B D a g M n0 M) := by have e := ST.out; rw [hkM] at e; exact e
      have hA := HLD.out.all
      have hg2 := (form0 hA.own).1
      have hSG := HS.out wr (HLD.out.ch.below HB.out hBw)
      obtain ⟨cur, hcur⟩ : ∃ cur, cur = (toI ((List.range M).map bh)).map (Value.int .u8) := ⟨_, rfl⟩
      obtain ⟨cs, hcs⟩ : ∃ cs, cs = (toI l).map (Value.int .u8) := ⟨_, rfl⟩
      rw [← hcur] at hg2
      have HSC : Hid (0 < cs.length → ∃ ad, ba = some ad ∧ ∀ j v, cs[j]? = some v → wr.cell? (ad.add j) = some v) := by rw [hcs]; exact seg_cells hSG
      have HCL : Hid (cs.length = n) := by rw [hcs, ← HN.out]; show _ = _; simp [toI]
      have HUL : Hid (cur.length = M) := by rw [hcur]; show _ = _; simp [toI]
      have HC1 : Hid (∀ v ∈ cs, v.oneCell' = true) := by
        rw [hcs]; intro v hv
        obtain ⟨z, _, rfl⟩ := List.mem_map.1 hv
        rfl
      have HCU : Hid (cur = (toI ((List.range M).map bh)).map (Value.int .u8)) := hcur
      have HCS : Hid (cs = (toI l).map (Value.int .u8)) := hcs
      clear hA hSG hcur hcs hkM ST
      go_wp2_with (first | (refine wpList_copy_ch rfl _ _ 43 43 rfl 5 Try.underlying43 Try.sizeByte _ _ _ _ _ _ rfl rfl g 0 cur 5 hg2 cs (by rw [HCL.out]; show n = min n M; omega) (fun h0 => ⟨rfl, HSC.out h0⟩) (by rw [HCL.out, HUL.out]; omega) HC1.out ?_))
      intro w3 HG3 k5
      have hg3 := HG3.out
      rw [HCU.out, HCS.out] at hg3
      obtain ⟨d0, d1, dz, LT⟩ := Lent.of HLD.out (by rw [HN.out]; omega) h70 hg3 k5
      rw [HN.out] at LT
      have HLT : Hid (Lent w (w3.setCell ⟨D, 1, none⟩ (.int .i64 (n : Int))) B D a g M l) := LT
      have e0 := LT.desk.c0
      clear LT hg3 k5 HG3 hg2 c0
      go_wp2
      go_ret
      exact ⟨g, M, rfl, HLT.out⟩

theorem lend_any (w : World) (B D : Nat) (a : Option Addr) (N n0 : Nat) (xs : List Int) (h : DeskAt w B D a N n0 xs) (ba : Option Addr) (bc : Nat) (l : List Nat) (hs : ∀ x, Below B w x → Seg .u8 x ba (toI l)) (hl : l.length ≤ 1048576) (hBw : B ≤ w.heap.size) :
    Calls Try.prog 17 #[.pointer (some ⟨D, 0, none⟩), .slice ba l.length bc] w fun e w' => ∃ g M, e = .returned (.slice (some ⟨g, 0, none⟩) l.length M) ∧ Lent w w' B D a g M l := by
  rcases Nat.lt_or_ge N (2 * l.length + 70) with e | e
  · exact lend_yes w B D a N n0 xs h ba bc l hs hl hBw e
  · exact lend_no w B D a N n0 xs h ba bc l hs hl hBw e
end Go.Proofs.Ythknkfggpdhdbaa.Dk
namespace Go.Proofs.Ythknkfggpdhdbaa.Ag
open Go.RowKit

/-- the port at a round's begin -/
structure Fz (s : PS) : Prop where
  fl : s.filled = 0
  tx : s.tx = []
  tot : s.fr.length + s.rx.length = 3
  pool : s.pool = 3
  size : s.size = 2048
  rxn : s.rxn = 2
  txn : s.txn = 2
/-- behind Arrive -/
structure Az (s : PS) (i : Nat) (rest l : List Nat) : Prop where
  fl : s.filled = 1
  rx : s.rx = i :: rest
  tx : s.tx = []
  tot : s.fr.length + rest.length = 2
  ln : s.ln i = l.length
  da : (s.da i).take l.length = l
  pool : s.pool = 3
  size : s.size = 2048
  rxn : s.rxn = 2
  txn : s.txn = 2
/-- behind Poll -/
structure Pz (s : PS) (i b : Nat) (l : List Nat) : Prop where
  fl : s.filled = 0
  tx : s.tx = []
  tot : s.fr.length + s.rx.length = 2
  da : (s.da i).take l.length = l
  pl : s.pl i = 4
  bb : s.bb i = some b
  lt : i < s.pool
  pool : s.pool = 3
  size : s.size = 2048
  rxn : s.rxn = 2
  txn : s.txn = 2
/-- behind Send -/
structure Sz (s : PS) (i : Nat) (l : List Nat) : Prop where
  fl : s.filled = 0
  tx : s.tx = [i]
  tot : s.fr.length + s.rx.length = 2
  ln : s.ln i = l.length
  da : (s.da i).take l.length = l
  pool : s.pool = 3
  size : s.size = 2048
  rxn : s.rxn = 2
  txn : s.txn = 2
variable {w w' : World} {P gb gf gr gt : Nat} {s s' : PS}
theorem fz_new : Fz (newK 2 2 3 2048 3) := ⟨rfl, rfl, (show (List.range 3).length + ([] : List Nat).length = 3 from rfl), rfl, rfl, rfl, rfl⟩
theorem refill_f (h : PortAt w P gb gf gr gt s) (hi : PInv s) (f : Fz s) :
    Calls Try.prog 15 #[.pointer (some ⟨P, 0, none⟩), .int .i64 1] w fun e w' => ∃ (k : Nat) (s' : PS), k ≤ 1 ∧ e = .returned (.int .i64 (k : Int)) ∧ Played w w' P gb gf gr gt s s' ∧ Fz s' ∧ 0 < s'.rx.length := by
  have hr : s.rx.length ≤ 2 := by obtain ⟨_, _, l⟩ := h.lr; have := l.ql; have := f.rxn; omega
  refine (refill_t h hi 1).mono ?_
  rintro e w' ⟨k, hk, rfl, pl⟩
  have ft := f.tot
  rw [show (1 : Int).toNat = 1 from rfl, f.rxn] at hk
  refine ⟨k, _, by omega, rfl, pl, ⟨f.fl, f.tx, ?_, f.pool, f.size, f.rxn, f.txn⟩, ?_⟩
  · simp only [PS.refilled, List.length_drop, List.length_append, List.length_take]; omega
  · simp only [PS.refilled, List.length_append, List.length_take]; omega
theorem arrive_f (h : PortAt w P gb gf gr gt s) (hi : PInv s) (f : Fz s) (hx : 0 < s.rx.length) (a : Option Addr) (c : Nat) (l : List Nat) (hseg : Seg .u8 w a (toI l)) (h256 : ∀ x ∈ l, x < 256) (hap : ∀ x, l ≠ [] → a = some x → x.block ≠ P ∧ x.block ≠ gb) :
    Calls Try.prog 16 #[.pointer (some ⟨P, 0, none⟩), .slice a l.length c] w fun e w' => ∃ v : Int, e = .returned (.int .i64 v) ∧ ((2048 < l.length ∧ (v = 30 ∨ v = 2) ∧ Below w.heap.size w w') ∨ (l.length ≤ 2048 ∧ v = 0 ∧ ∃ s' i rest, Played w w' P gb gf gr gt s s' ∧ Az s' i rest l)) := by
  refine (arrive_t h hi a c l hseg h256 hap).mono ?_
  rintro e w' ⟨rfl, r⟩
  refine ⟨_, rfl, ?_⟩
  have hv : aE s l.length = if 65535 < l.length then 2 else if 2048 < l.length then 30 else 0 := by
    unfold aE
    rw [f.size, f.fl, if_neg (show ¬ 0 = s.rx.length by omega)]
  rcases r with ⟨h1, h2⟩ | ⟨h1, hk, b, pl⟩
  · refine .inl ?_
    by_cases c1 : 2048 < l.length
    · refine ⟨c1, ?_, h2⟩
      rw [hv]
      by_cases c2 : 65535 < l.length
      · rw [if_pos c2]; exact .inr rfl
      · rw [if_neg c2, if_pos c1]; exact .inl rfl
    · exfalso
      rw [hv, if_neg (by omega), if_neg c1] at h1
      exact h1 rfl
  · refine .inr ?_
    have c1 : l.length ≤ 2048 := by
      rcases Nat.lt_or_ge 2048 l.length with c1 | c1
      · exfalso
        rw [hv] at h1
        by_cases c2 : 65535 < l.length
        · rw [if_pos c2] at h1; cases h1
        · rw [if_neg c2, if_pos c1] at h1; cases h1
      · exact c1
    cases hrx : s.rx with
    | nil => rw [hrx] at hx; simp at hx
    | cons i rest =>
      have e0 : s.rx[s.filled]'hk = i := by
        have e1 : s.rx[s.filled]? = some i := by rw [f.fl, hrx]; rfl
        exact (List.getElem?_eq_some_iff.1 e1).2
      rw [e0] at pl
      have ft := f.tot
      rw [hrx] at ft
      refine ⟨c1, h1, _, i, rest, pl, ⟨by simp [PS.arrived, f.fl], hrx, f.tx, ?_, updF_same _ _ _, ?_, f.pool, f.size, f.rxn, f.txn⟩⟩
      · simp only [List.length_cons] at ft; simp only [PS.arrived]; omega
      · show (updF s.da i _ i).take _ = _
        rw [updF_same]; simp
theorem poll_f {i : Nat} {rest l : List Nat} (h : PortAt w P gb gf gr gt s) (hi : PInv s) (z : Az s i rest l) :
    Calls Try.prog 20 #[.pointer (some ⟨P, 0, none⟩)] w fun e w' => ∃ b s', e = .returned (.tuple #[.int .i64 i, .slice (some ⟨b, 0, none⟩) l.length l.length, .bool true]) ∧ Played w w' P gb gf gr gt s s' ∧ Pz s' i b l := by
  refine (poll_t h hi).mono ?_
  rintro e w' (⟨h0, _⟩ | ⟨m, i', b, rest', hm, hr, hlt, rfl, ho, pl⟩)
  · exact absurd h0 (by rw [z.fl]; decide)
  · rw [z.rx] at hr
    cases hr
    have hm0 : m = 0 := by have := z.fl; omega
    subst hm0
    rw [z.ln]
    exact ⟨b, _, rfl, pl, ⟨rfl, z.tx, z.tot, z.da, updF_same _ _ _, updF_same _ _ _, hlt, z.pool, z.size, z.rxn, z.txn⟩⟩
theorem send_f {i b : Nat} {l : List Nat} (h : PortAt w P gb gf gr gt s) (hi : PInv s) (z : Pz s i b l) (hl : l.length ≤ 2048) :
    Calls Try.prog 22 #[.pointer (some ⟨P, 0, none⟩), .int .i64 i, .int .i64 l.length] w fun e w' => ∃ s', e = .returned (.int .i64 0) ∧ Played w w' P gb gf gr gt s s' ∧ Sz s' i l := by
  have e1 : hE s i = 0 := by
    have := z.lt
    unfold hE
    rw [if_neg (by omega), Int.toNat_natCast, if_pos z.pl]
  have e2 : sE s i l.length = 0 := by
    unfold sE
    rw [if_neg (by rw [z.size]; omega), if_pos e1, if_neg (by rw [z.tx, z.txn]; decide)]
  refine (send_t h hi i l.length).mono ?_
  rintro e w' ⟨rfl, r⟩
  rw [e2]
  rcases r with ⟨h1, _⟩ | ⟨k, m, ek, em, _, _, _, _, pl⟩
  · exact absurd e2 h1
  · obtain rfl : k = i := by omega
    obtain rfl : m = l.length := by omega
    exact ⟨_, rfl, pl, ⟨z.fl, by show s.tx ++ [k] = [k]; rw [z.tx]; rfl, z.tot, updF_same _ _ _, z.da, z.pool, z.size, z.rxn, z.txn⟩⟩
theorem drain_f {i : Nat} {l : List Nat} (h : PortAt w P gb gf gr gt s) (hi : PInv s) (z : Sz s i l) :
    Calls Try.prog 23 #[.pointer (some ⟨P, 0, none⟩)] w fun e w' => ∃ g s', e = .returned (.tuple #[.slice (some ⟨g, 0, none⟩) l.length l.length, .bool true]) ∧ w'.ownsRow w.heap.size 5 1 (.slice (some ⟨g, 0, none⟩) l.length l.length) l.length ((toI l).map (Value.int .u8)) ∧ Played w w' P gb gf gr gt s s' ∧ Fz s' ∧ ¬ PB P gb gf gr gt s' g := by
  refine (drain_t h hi).mono ?_
  rintro e w' (⟨h0, _⟩ | ⟨i', g, b, rest, hr, hlt, rfl, ho, hgb, hbb, pl⟩)
  · exact absurd h0 (by rw [z.tx]; simp)
  · rw [z.tx] at hr
    cases hr
    rw [z.ln, z.da] at ho
    have hg := (form0 ho).2.1
    have ft := z.tot
    rw [z.ln]
    refine ⟨g, _, rfl, ho, pl, ⟨z.fl, rfl, ?_, z.pool, z.size, z.rxn, z.txn⟩, ?_⟩
    · simp only [PS.drained, List.length_append, List.length_cons, List.length_nil]; omega
    · intro hq
      have hn : ¬ PB P gb gf gr gt s g := fun e => by have := h.rowlt e; omega
      rcases hq with e | e | e | e | e | ⟨j, hj, e⟩
      · exact hn (.inl e)
      · exact hn (.inr (.inl e))
      · exact hn (.inr (.inr (.inl e)))
      · exact hn (.inr (.inr (.inr (.inl e))))
      · exact hn (.inr (.inr (.inr (.inr (.inl e)))))
      · by_cases hji : j = i
        · subst hji
          have e' : updF s.bb j (some b) j = some g := e
          rw [updF_same] at e'
          exact hgb (by cases e'; rfl)
        · have e' : updF s.bb i (some b) j = some g := e
          rw [updF_other _ _ _ hji] at e'
          exact hn (.inr (.inr (.inr (.inr (.inr ⟨j, hj, e'⟩)))))
end Go.Proofs.Ythknkfggpdhdbaa.Ag
namespace Go.Proofs.Ythknkfggpdhdbaa.Ag
open Go.RowKit Go.ChangeShapes Go.WideShapes
open Bk Dk

theorem desk_lt {w : World} {B D : Nat} {a : Option Addr} {N n : Nat} {xs : List Int} (h : DeskAt w B D a N n xs) (q : Nat) (hq : dB D a q) : B ≤ q ∧ q < w.heap.size := by
  rcases hq with e | ⟨y, e1, e2⟩
  · subst e; exact ⟨h.hD, World.block_lt_of_cell? w ⟨q, 0, none⟩ h.c0⟩
  · rcases h.own.2 with ⟨e, _⟩ | ⟨g, cap, cur, e, hb, hh, _⟩
    · rw [e1] at e; cases e
    · have e3 := (Value.slice.inj e).1
      rw [e1] at e3
      cases e3
      simp only at e2
      subst e2
      exact ⟨hb, by rw [Array.getElem?_eq_some_iff] at hh; exact hh.1⟩
structure AgS where
  s : PS
  a : Option Addr
  N : Nat
  n : Nat
  xs : List Int
  vL : Value
  vW : Value
  E : List BE
structure Ag (B : Nat) (w0 w : World) (P gb gf gr gt D K : Nat) (t : AgS) : Prop where
  port : PortAt w P gb gf gr gt t.s
  inv : PInv t.s
  desk : DeskAt w B D t.a t.N t.n t.xs
  book : BookAt w B K t.vL t.vW t.E
  bel : Below B w0 w
  pB : ∀ q, PB P gb gf gr gt t.s q → B ≤ q
  pd : ∀ q, PB P gb gf gr gt t.s q → ¬ dB D t.a q
  pb : ∀ q, PB P gb gf gr gt t.s q → ¬ bB K t.vL t.vW t.E q
  db : ∀ q, dB D t.a q → ¬ bB K t.vL t.vW t.E q
  sz : B ≤ w.heap.size
variable {B : Nat} {w0 w w' : World} {P gb gf gr gt D K : Nat} {t : AgS}
theorem Ag.below (h : Ag B w0 w P gb gf gr gt D K t) (k : Below w.heap.size w w') : Ag B w0 w' P gb gf gr gt D K t :=
  ⟨h.port.below k, h.inv, h.desk.below k, h.book.below k, h.bel.trans (k.mono h.sz), h.pB, h.pd, h.pb, h.db, Nat.le_trans h.sz k.size⟩
theorem Ag.played {s' : PS} (h : Ag B w0 w P gb gf gr gt D K t) (k : Played w w' P gb gf gr gt t.s s') : Ag B w0 w' P gb gf gr gt D K { t with s := s' } :=
  ⟨k.port, k.inv, h.desk.ch k.ch (fun q hq e => h.pd q e hq), h.book.ch k.ch (fun q hq e => h.pb q e hq), h.bel.trans (k.ch.below h.pB h.sz), fun q hq => (k.blk q hq).elim (h.pB q) (fun e => Nat.le_trans h.sz e),
    fun q hq e => (k.blk q hq).elim (fun o => h.pd q o e) (fun o => by have := (desk_lt h.desk q e).2; omega), fun q hq e => (k.blk q hq).elim (fun o => h.pb q o e) (fun o => by have := (h.book.lt q e).2; omega), h.db, Nat.le_trans h.sz k.ch.size⟩
theorem dB_some {D g q : Nat} (h : dB D (some ⟨g, 0, none⟩) q) : q = D ∨ q = g := by
  rcases h with e | ⟨y, e1, e2⟩
  · exact .inl e
  · cases e1; exact .inr e2.symm
theorem Ag.lent {g M : Nat} {l : List Nat} (h : Ag B w0 w P gb gf gr gt D K t) (k : Lent w w' B D t.a g M l) : Ag B w0 w' P gb gf gr gt D K { t with a := some ⟨g, 0, none⟩, N := M, n := l.length, xs := toI (dk l M) } := by
  have hn : ∀ q, dB D (some ⟨g, 0, none⟩) q → dB D t.a q ∨ w.heap.size ≤ q := fun q hq => by
    rcases dB_some hq with e | e
    · exact .inl (.inl e)
    · rw [e]; exact k.old
  exact ⟨h.port.ch k.ch (fun q hq e => h.pd q hq e), h.inv, k.desk, h.book.ch k.ch (fun q hq e => h.db q e hq), h.bel.trans (k.ch.below (fun q hq => (desk_lt h.desk q hq).1) h.sz), h.pB,
    fun q hq e => (hn q e).elim (h.pd q hq) (fun o => by have := h.port.rowlt hq; omega), h.pb, fun q hq e => (hn q hq).elim (fun o => h.db q o e) (fun o => by have := (h.book.lt q e).2; omega), Nat.le_trans h.sz k.ch.size⟩
theorem Ag.wiped {g : Nat} {ys : List Int} (h : Ag B w0 w P gb gf gr gt D K t) (ha : t.a = some ⟨g, 0, none⟩) (k : DeskAt w' B D (some ⟨g, 0, none⟩) t.N t.n ys) (c : Ch (fun q => q = g) w w') : Ag B w0 w' P gb gf gr gt D K { t with xs := ys } := by
  have hg : dB D t.a g := by rw [ha]; exact .inr ⟨_, rfl, rfl⟩
  exact ⟨h.port.ch c (fun q hq e => h.pd q hq (by rw [e]; exact hg)), h.inv, by simp only [ha]; exact k, h.book.ch c (fun q hq e => h.db q (by rw [e]; exact hg) hq), h.bel.trans (c.below (fun q hq => by rw [hq]; exact (desk_lt h.desk g hg).1) h.sz), h.pB, h.pd, h.pb, h.db, Nat.le_trans h.sz c.size⟩
theorem Ag.kept {vL' vW' : Value} {e : BE} (h : Ag B w0 w P gb gf gr gt D K t) (k : Kept w w' B K t.vL t.vW vL' vW' t.E e) (h1 : ∀ q, e.v.ownBlock = some q → ¬ PB P gb gf gr gt t.s q) (h2 : ∀ q, e.v.ownBlock = some q → ¬ dB D t.a q) : Ag B w0 w' P gb gf gr gt D K { t with vL := vL', vW := vW', E := t.E ++ [e] } :=
  ⟨h.port.ch k.ch (fun q hq e => h.pb q hq e), h.inv, h.desk.ch k.ch (fun q hq e => h.db q hq e), k.bk, h.bel.trans (k.ch.below (fun q hq => (h.book.lt q hq).1) h.sz), h.pB, h.pd,
    fun q hq e => by
      rcases k.new q e with o | o | o
      · exact h.pb q hq o
      · exact h1 q o hq
      · have := h.port.rowlt hq; omega,
    fun q hq e => by
      rcases k.new q e with o | o | o
      · exact h.db q hq o
      · exact h2 q o hq
      · have := (desk_lt h.desk q hq).2; omega, Nat.le_trans h.sz k.ch.size⟩
/-- a frame that came in -/
structure FrV where
  a : Option Addr
  cap : Nat
  l : List Nat
def FrV.cells (o : FrV) : List Value := [.slice o.a o.l.length o.cap]
structure FrV.ok (w : World) (o : FrV) : Prop where
  seg : Seg .u8 w o.a (toI o.l)
  b256 : ∀ x ∈ o.l, x < 256
  le : o.l.length ≤ 1048576
def FramesU (w : World) (a : Option Addr) (fs : List FrV) : Prop := ListG 1 FrV.cells (FrV.ok w) w a fs
theorem open_frB {H : Type} {enc : TypeId × Value → H} {W : World} (fuel : Nat) (cs : List Value) (x : DataW H × List MemPlace)
    (h : DataW.trod enc Try.prog W 0 (fun _ => true) true fuel 43 cs = some x) (hbulk : Rows.uptoBulk x.1 ≤ 1048576) : ∃ o : FrV, cs = o.cells ∧ FrV.ok W o := by
  obtain ⟨c, rfl⟩ : ∃ c, cs = [c] := by
    rcases open_ints Try.underlying43 Try.underlying5 Try.cellsByte h with ⟨hcs, _⟩ | ⟨_, _, _, _, hcs, _⟩
    · exact ⟨_, hcs⟩
    · exact ⟨_, hcs⟩
  obtain ⟨a, len, cap, zs, rfl, hr, hb⟩ := open_rowB Try.underlying43 Try.underlying5 Try.cellsByte h
  obtain ⟨bs, hl, hs, h1, h2, h256⟩ := hr.bytes
  exact ⟨⟨a, cap, bs⟩, by simp [FrV.cells, hl], ⟨hs, h256, by show bs.length ≤ _; omega⟩⟩
theorem open_framesU {H : Type} {enc : TypeId × Value → H} {W : World} {a : Option Addr} {len cap : Nat} {d : DataW H} {p : List MemPlace} {fuel : Nat}
    (h : DataW.trod enc Try.prog W 0 (fun _ => true) true fuel 37 [.slice a len cap] = some (d, p)) (hbulk : Rows.uptoBulk d ≤ 1048576) :
    ∃ fs : List FrV, fs.length = len ∧ FramesU W a fs ∧ len ≤ 1048576 :=
  open_listB 1 FrV.cells (FrV.ok W) Try.underlying37 (by kernel_rfl) (by decide) (fun _ => rfl) open_frB h hbulk
theorem FramesU.at {w : World} {a : Option Addr} {fs : List FrV} (h : FramesU w a fs) (i : Nat) (hi : i < fs.length) : ∃ b off, a = some ⟨b, off, none⟩ ∧ FrV.ok w fs[i] ∧ ∀ x, Below w.heap.size w x → x.cell? ⟨b, off + i, none⟩ = some (.slice fs[i].a fs[i].l.length fs[i].cap) ∧ Seg .u8 x fs[i].a (toI fs[i].l) := by
  rcases h with h | ⟨b, off, ha, hlt, hc⟩
  · rw [h] at hi; simp at hi
  · obtain ⟨ok, c⟩ := hc i _ (List.getElem?_eq_getElem hi)
    have c0 := c 0 (by decide)
    rw [Nat.mul_one, Nat.add_zero] at c0
    refine ⟨b, off, ha, ok, fun x hx => ⟨(hx.cell (p := ⟨b, off + i, none⟩) hlt).trans c0, ok.seg.old hx⟩⟩
theorem alike_same (w : World) (a b : Option Addr) (ca cb : Nat) (l : List Nat) (h1 : Seg .u8 w a (toI l)) (h2 : Seg .u8 w b (toI l)) (h : ∀ x ∈ l, x < 256) :
    Calls Try.prog 21 #[.slice a l.length ca, .slice b l.length cb] w fun e w' => e = .returned (.bool true) ∧ w = w' :=
  (alike_any a b ca cb l l w h1 h2 h h).mono (fun e w' k => ⟨by rw [k.1]; simp, k.2⟩)
theorem win_seg {s : PS} {i b : Nat} {l : List Nat} (h : PortAt w P gb gf gr gt s) (z : Pz s i b l) : Seg .u8 w (some ⟨b, 0, none⟩) (toI l) := by
  obtain ⟨sg, _⟩ := owns_seg_at (h.row i b z.lt z.bb)
  have e : s.da i = l ++ (s.da i).drop l.length := by
    have e2 := (List.take_append_drop l.length (s.da i)).symm
    rw [z.da] at e2; exact e2
  rw [e] at sg
  exact seg_pre sg
theorem desk_seg {g N : Nat} {l : List Nat} (h : DeskAt w B D (some ⟨g, 0, none⟩) N l.length (toI (dk l N))) : Seg .u8 w (some ⟨g, 0, none⟩) (toI l) := by
  obtain ⟨sg, _⟩ := owns_seg_at h.own
  exact seg_pre sg
theorem ag_new {w0 ws : World} {B P gb gf gr gt : Nat} (hp : PortAt ws P gb gf gr gt (newK 2 2 3 2048 3)) (hb : Below B w0 ws) (hs : B ≤ ws.heap.size) (hq : ∀ q, PB P gb gf gr gt (newK 2 2 3 2048 3) q → B ≤ q) :
    Ag B w0 ((ws.alloc (.cells #[.slice none 0 0, .int .i64 0] 45)).alloc (.cells #[.slice none 0 0, .slice none 0 0] 48)) P gb gf gr gt ws.heap.size (ws.heap.size + 1) ⟨newK 2 2 3 2048 3, none, 0, 0, [], .slice none 0 0, .slice none 0 0, []⟩ := by
  obtain ⟨w1, hw1⟩ : ∃ w1, w1 = ws.alloc (.cells #[.slice none 0 0, .int .i64 0] 45) := ⟨_, rfl⟩
  have b1 : Below ws.heap.size ws w1 := by rw [hw1]; exact (Below.refl _ _).alloc (Nat.le_refl _) _
  have z1 : w1.heap.size = ws.heap.size + 1 := by rw [hw1, World.size_alloc]
  have d1 : DeskAt w1 B ws.heap.size none 0 0 [] := by
    rw [hw1]
    refine ⟨?_, ?_, fun j => ?_, ⟨rfl, .inl ⟨rfl, rfl⟩⟩, fun g hg => (by cases hg), hs, by decide⟩
    · have e := news_at ws 45 [.slice none 0 0, .int .i64 0] 0 _ rfl; rwa [Addr.add_lit, Nat.zero_add] at e
    · have e := news_at ws 45 [.slice none 0 0, .int .i64 0] 1 _ rfl; rwa [Addr.add_lit, Nat.zero_add] at e
    · rw [frozen?_alloc_cells]; simp [World.frozen?]
  rw [← hw1]
  obtain ⟨w2, hw2⟩ : ∃ w2, w2 = w1.alloc (.cells #[.slice none 0 0, .slice none 0 0] 48) := ⟨_, rfl⟩
  have b2 : Below w1.heap.size w1 w2 := by rw [hw2]; exact (Below.refl _ _).alloc (Nat.le_refl _) _
  have k2 : BookAt w2 B (ws.heap.size + 1) (.slice none 0 0) (.slice none 0 0) [] := by
    rw [hw2, ← z1]
    refine ⟨?_, ?_, fun j => ?_, ⟨rfl, .inl ⟨rfl, rfl⟩⟩, ⟨rfl, .inl ⟨rfl, rfl⟩⟩, fun e he => by simp at he, fun e he => by simp at he, List.Pairwise.nil, fun e he => by simp at he, fun e he => by simp at he, ⟨by simp [Value.ownBlock], by simp [Value.ownBlock]⟩, .inl rfl, by omega⟩
    · have e := news_at w1 48 [.slice none 0 0, .slice none 0 0] 0 _ rfl; rwa [Addr.add_lit, Nat.zero_add] at e
    · have e := news_at w1 48 [.slice none 0 0, .slice none 0 0] 1 _ rfl; rwa [Addr.add_lit, Nat.zero_add] at e
    · rw [frozen?_alloc_cells]; simp [World.frozen?]
  rw [← hw2]
  have p1 := hp.below b1
  have p2 := p1.below b2
  have z2 := b2.size
  refine ⟨p2, newK_inv _ _ _ _, d1.below b2, k2, hb.trans ((b1.mono hs).trans (b2.mono (by omega))), hq, fun q hq e => ?_, fun q hq e => ?_, fun q hq e => ?_, by omega⟩
  · have := hp.rowlt hq
    rcases e with e | ⟨y, e, _⟩
    · omega
    · cases e
  · have := hp.rowlt hq
    rcases e with e | e | e | ⟨e, he, _⟩
    · omega
    · simp [Value.ownBlock] at e
    · simp [Value.ownBlock] at e
    · simp at he
  · rcases hq with hq | ⟨y, hq, _⟩
    · rcases e with e | e | e | ⟨e, he, _⟩
      · omega
      · simp [Value.ownBlock] at e
      · simp [Value.ownBlock] at e
      · simp at he
    · cases hq
end Go.Proofs.Ythknkfggpdhdbaa.Ag
