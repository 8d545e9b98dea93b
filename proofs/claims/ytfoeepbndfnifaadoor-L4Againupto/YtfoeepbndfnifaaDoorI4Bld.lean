/-
  The builder's calls: what later layers use (Builder to Builder4, RBld4).
-/
import Derived.Test.YtfoeepbndfnifaaDoorPSplit
import Derived.Test.YtfoeepbndfnifaaDoorWindow
import Derived.Laws.CopyOwn
import Derived.Deep.RegionWith
import Derived.Laws.OwnMore
namespace Go.Proofs.YtfoeepbndfnifaaDoor
open Go.RowKit


/-- the block B holds a builder of at most mx bytes; its row (v) holds l -/
structure Bld (w : World) (B : Nat) (v : Value) (mx : Nat) (l : List Nat) : Prop where
  c0 : w.cell? ⟨B, 0, none⟩ = some v
  c1 : w.cell? ⟨B, 1, none⟩ = some (.int .i64 mx)
  fz : ∀ j, w.frozen? ⟨B, j, none⟩ = false
  lt : B < w.heap.size
  own : w.ownsRow 0 5 1 v l.length ((toI l).map (Value.int .u8))
  ne : v.ownBlock ≠ some B
/-- its blocks -/
def BS (B : Nat) (v : Value) (k : Nat) : Prop := k = B ∨ v.ownBlock = some k
theorem Bld.ch {S : Nat → Prop} {w w' : World} {B : Nat} {v : Value} {mx : Nat} {l : List Nat} (h : Bld w B v mx l) (k : Ch S w w') (hS : ∀ x, BS B v x → ¬ S x) : Bld w' B v mx l :=
  ⟨k.cell h.c0 (hS B (.inl rfl)), k.cell h.c1 (hS B (.inl rfl)), fun j => (k.frozen (p := ⟨B, j, none⟩) h.lt (hS B (.inl rfl))).trans (h.fz j), Nat.lt_of_lt_of_le h.lt k.size, k.owns h.own (fun g hg => hS g (.inr hg)), h.ne⟩
theorem Bld.below {w w' : World} {B : Nat} {v : Value} {mx : Nat} {l : List Nat} (h : Bld w B v mx l) (k : Below w.heap.size w w') : Bld w' B v mx l :=
  h.ch (Ch.ofBelow (S := fun _ => False) k) (fun _ _ => id)

set_option maxHeartbeats 400000 in
theorem newB_ok (mx : Nat) (w : World) (h : mx ≤ 65535) :
    Calls Tryd.prog 71 #[.int .i64 mx] w fun e w' => e = .returned (.tuple #[.pointer (some ⟨w.heap.size, 0, none⟩), .int .i64 0]) ∧ Bld w' w.heap.size (.slice none 0 0) mx [] ∧ w' = w.alloc (.cells #[.slice none 0 0, .int .i64 mx] 141) := by
  go_enter Tryd.func71, Tryd.ntmps71
  go_wp2
  go_ret2
  exact ⟨rfl, ⟨by simp [go_sem], by simp [go_sem], fun j => by simp [go_sem], by simp, World.ownsRow_nil _ _ _ _, by simp [Value.ownBlock]⟩, rfl⟩
set_option maxHeartbeats 400000 in
theorem newB_bad (mx : Int) (w : World) (h : mx < 0 ∨ 65535 < mx) :
    Calls Tryd.prog 71 #[.int .i64 mx] w fun e w' => e = .returned (.tuple #[.pointer none, .int .i64 1]) ∧ w = w' := by
  by_cases h0 : mx < 0
  · go_enter Tryd.func71, Tryd.ntmps71
    go_wp2
    go_ret2
    exact ⟨rfl, rfl⟩
  · have h1 : 65535 < mx := by omega
    go_enter Tryd.func71, Tryd.ntmps71
    go_wp2
    go_ret2
    exact ⟨rfl, rfl⟩

set_option maxHeartbeats 400000 in
theorem lenB_any (B : Nat) (v : Value) (mx : Nat) (l : List Nat) (w : World) (h : Bld w B v mx l) :
    Calls Tryd.prog 85 #[.pointer (some ⟨B, 0, none⟩)] w fun e w' => e = .returned (.int .i64 l.length) ∧ w = w' := by
  have h0 := h.c0
  obtain ⟨a, c, rfl⟩ := owns_shape h.own
  go_enter Tryd.func85, Tryd.ntmps85
  go_wp2
  go_ret
  exact ⟨rfl, rfl⟩
theorem form0 {w : World} {g B n : Nat} {e : TypeId} {xs : List Value} (h : w.ownsRow B e 1 (.slice (some ⟨g, 0, none⟩) n n) n xs) : w.heap[g]? = some (.cells xs.toArray e (0, 0)) ∧ B ≤ g ∧ n ≤ maxLen := by
  rcases h.2 with ⟨h1, _⟩ | ⟨g', cap, cur, h1, hb, hh, hn, hc, hs, ht⟩
  · simp at h1
  · simp only [Value.slice.injEq, Option.some.injEq, Addr.mk.injEq, and_true, true_and] at h1
    obtain ⟨rfl, rfl⟩ := h1
    rw [List.take_of_length_le (by simp; omega)] at ht
    exact ⟨by rw [hh, ← ht], hb, hc⟩
theorem to_own {w : World} {g B n : Nat} {e : TypeId} {xs : List Value} (h : w.heap[g]? = some (.cells xs.toArray e (0, 0))) (hb : B ≤ g) (hn : xs.length = n) (hm : n ≤ maxLen) : w.ownsRow B e 1 (.slice (some ⟨g, 0, none⟩) n n) n xs :=
  ⟨by simpa using hn, .inr ⟨g, n, xs.toArray, rfl, hb, h, Nat.le_refl _, hm, by simpa using hn, by simp; rw [← hn]; simp⟩⟩
theorem Tryd.sizeByte : (Tryd.prog.info? 5).map (·.size) = some 1 := by kernel_rfl
set_option maxHeartbeats 800000 in
theorem doneB_any (B : Nat) (v : Value) (mx : Nat) (l : List Nat) (w : World) (h : Bld w B v mx l) (hn : l.length ≤ 65535) :
    Calls Tryd.prog 74 #[.pointer (some ⟨B, 0, none⟩)] w fun e w' => ∃ g, e = .returned (.slice (some ⟨g, 0, none⟩) l.length l.length) ∧ w'.ownsRow w.heap.size 5 1 (.slice (some ⟨g, 0, none⟩) l.length l.length) l.length ((toI l).map (Value.int .u8)) ∧ Below w.heap.size w w' := by
  obtain ⟨i0, hi, hz0, hz1, hz2⟩ := info_parts Tryd.infoByte
  have h0 := h.c0
  obtain ⟨a, c, rfl⟩ := owns_shape h.own
  have hseg : Seg .u8 w a (toI l) := by
    obtain ⟨a', c', e1, hs, _⟩ := owns_seg h.own
    simp only [Value.slice.injEq, true_and] at e1
    rw [e1.1]; exact hs
  obtain ⟨n, hnn⟩ : ∃ n, n = l.length := ⟨_, rfl⟩
  obtain ⟨cs, hcs⟩ : ∃ cs, cs = (toI l).map (Value.int .u8) := ⟨_, rfl⟩
  have HCL : Hid (cs.length = n) := by show _ = _; rw [hcs]; simp [toI, hnn]
  have HC1 : Hid (∀ v ∈ cs, v.oneCell' = true) := by
    intro v hv; rw [hcs] at hv; obtain ⟨z, _, rfl⟩ := List.mem_map.1 hv; rfl
  have HSG : Hid (∀ w', Below w.heap.size w w' → 0 < cs.length → ∃ ad, a = some ad ∧ ∀ j v, cs[j]? = some v → w'.cell? (ad.add j) = some v) := by
    intro w' hb h0
    rcases hseg.old hb with hnil | ⟨b, off, rfl, hc⟩
    · rw [hcs, hnil] at h0; simp at h0
    · refine ⟨_, rfl, fun j v hj => ?_⟩
      rw [hcs] at hj
      have hj' : j < (toI l).length := by simpa using (List.getElem?_eq_some_iff.1 hj).1
      rw [Addr.add_lit, hc j hj']
      simp [List.getElem?_eq_getElem hj'] at hj
      rw [← hj]
      simp [List.getD, hj']
  rw [← hnn] at h0 hn ⊢
  rw [← hcs]
  have hlt := h.lt
  clear hcs hseg hnn h
  go_enter Tryd.func74, Tryd.ntmps74
  go_wp2_with (first | (at_make; refine wpList_make_full _ rfl _ _ 25 rfl w.heap.size 5 i0 (.int .u8 0) 1 Tryd.underlying25 hi hz0 hz1 .i64 .i64 _ _ n rfl rfl rfl rfl (by rw [hz2]; omega) (by unfold maxLen; omega) (Nat.le_refl _) ?_))
  intro w2 hown2 hgrow2
  have hb2 : Below w.heap.size w w2 := (Below.refl _ _).grown hgrow2 (Nat.le_refl _) (by intro k hk; cases hk)
  rw [toList_madeCells_one] at hown2
  obtain ⟨hg2, hgB, _⟩ := form0 hown2
  obtain ⟨g, hg⟩ : ∃ g, g = w.heap.size := ⟨_, rfl⟩
  rw [← hg] at hg2 ⊢
  have hgB' : w.heap.size ≤ g := by omega
  obtain ⟨zs, hzs⟩ : ∃ zs, zs = List.replicate n (Value.int IntKind.u8 0) := ⟨_, rfl⟩
  rw [← hzs] at hg2
  have HZL : Hid (zs.length = n) := by show _ = _; rw [hzs]; simp
  have h02 : w2.cell? ⟨B, 0, none⟩ = some (.slice a n c) := (hb2.cell hlt).trans h0
  clear hown2 hgrow2 hgB hg hzs
  go_wp2_with (first | (refine wpList_copy_splice rfl _ _ 25 25 rfl 5 Tryd.underlying25 Tryd.sizeByte _ _ _ _ _ _ rfl rfl g 0 zs 5 hg2 cs (by rw [HCL.out]; show n = min n n; omega) (fun h0 => ⟨rfl, HSG.out _ hb2 h0⟩) (by rw [HCL.out, HZL.out]; omega) HC1.out w.heap.size w hb2 hgB' ?_))
  intro w3 HG3 hb3
  have ho3 : w3.ownsRow w.heap.size 5 1 (.slice (some ⟨g, 0, none⟩) n n) n cs := by
    have h := HG3.out
    have e : splice zs 0 cs = cs := by
      rw [splice]
      simp only [List.take_zero, List.nil_append, Nat.zero_add]
      rw [List.drop_eq_nil_of_le (by rw [HCL.out, HZL.out]; exact Nat.le_refl _), List.append_nil]
    rw [e] at h
    exact to_own h hgB' HCL.out (by unfold maxLen; omega)
  clear HG3
  go_wp2
  go_ret
  exact ⟨g, rfl, ho3, hb3⟩


set_option maxHeartbeats 400000 in
theorem fits_arg (n v : Int) (w : World) (h : n < 1 ∨ 8 < n) : Calls Tryd.prog 83 #[.int .i64 n, .int .u64 v] w fun e w' => e = .returned (.int .i64 1) ∧ w = w' := by
  by_cases h0 : n < 1
  · go_enter Tryd.func83, Tryd.ntmps83
    go_wp2
    go_ret
    exact ⟨rfl, rfl⟩
  · have h1 : 8 < n := by omega
    go_enter Tryd.func83, Tryd.ntmps83
    go_wp2
    go_ret
    exact ⟨rfl, rfl⟩
theorem pow_two (n : Nat) : 256 ^ n = 2 ^ (8 * n) := by rw [Nat.pow_mul]
set_option maxHeartbeats 400000 in
theorem fits_ok (n v : Nat) (w : World) (h1 : 1 ≤ n) (h8 : n ≤ 8) (hv : v < 256 ^ n) : Calls Tryd.prog 83 #[.int .i64 n, .int .u64 v] w fun e w' => e = .returned (.int .i64 0) ∧ w = w' := by
  have hd : ((v : Int) / 2 ^ (8 * n) != 0) = false := by
    have e : (v : Int) / 2 ^ (8 * n) = ((v / 2 ^ (8 * n) : Nat) : Int) := by push_cast; rfl
    rw [e, ← pow_two, Nat.div_eq_of_lt hv]
    rfl
  clear hv
  go_enter Tryd.func83, Tryd.ntmps83
  go_wp2
  go_ret
  exact ⟨rfl, rfl⟩
set_option maxHeartbeats 400000 in
theorem fits_val (n v : Nat) (w : World) (h1 : 1 ≤ n) (h8 : n ≤ 8) (hv : 256 ^ n ≤ v) : Calls Tryd.prog 83 #[.int .i64 n, .int .u64 v] w fun e w' => e = .returned (.int .i64 12) ∧ w = w' := by
  have hd : ((v : Int) / 2 ^ (8 * n) != 0) = true := by
    have e : (v : Int) / 2 ^ (8 * n) = ((v / 2 ^ (8 * n) : Nat) : Int) := by push_cast; rfl
    have : 0 < v / 256 ^ n := Nat.div_pos hv (Nat.pow_pos (by decide))
    rw [e, ← pow_two, bne_iff_ne]
    omega
  clear hv
  go_enter Tryd.func83, Tryd.ntmps83
  go_wp2
  go_ret
  exact ⟨rfl, rfl⟩

/-- the world behind k rounds of write -/
def wrt (w : World) (g off n v : Nat) : Nat → World
  | 0 => w
  | k + 1 => (wrt w g off n v k).setCell ⟨g, off + (n - 1 - k), none⟩ (.int .u8 ((v / 256 ^ k % 256 : Nat) : Int))
/-- the n bytes of a number -/
def byN (n v : Nat) : List Nat := (List.range n).map (fun i => v / 256 ^ (n - 1 - i) % 256)
theorem byN_len (n v : Nat) : (byN n v).length = n := by simp [byN]
theorem byN_lt (n v : Nat) : ∀ x ∈ byN n v, x < 256 := by
  intro x hx
  simp only [byN, List.mem_map, List.mem_range] at hx
  obtain ⟨i, _, rfl⟩ := hx
  exact Nat.mod_lt _ (by decide)
theorem wrt_fz (w : World) (g off n v k : Nat) (a : Addr) : (wrt w g off n v k).frozen? a = w.frozen? a := by
  induction k with
  | zero => rfl
  | succ k ih => rw [wrt, World.frozen?_setCell]; exact ih
theorem wrt_size (w : World) (g off n v k : Nat) : (wrt w g off n v k).heap.size = w.heap.size := by
  induction k with
  | zero => rfl
  | succ k ih => rw [wrt]; simpa using ih
theorem wrt_ch (w : World) (g off n v k : Nat) : Ch (fun x => x = g) w (wrt w g off n v k) := by
  induction k with
  | zero => exact Ch.refl _ _
  | succ k ih => exact ih.set _ _ rfl
/-- a cell of the row that is not yet written -/
theorem wrt_old (w : World) (g off n v k i : Nat) (hk : k ≤ n) (hi : i < n - k ∨ n ≤ i) : (wrt w g off n v k).cell? ⟨g, off + i, none⟩ = w.cell? ⟨g, off + i, none⟩ := by
  induction k with
  | zero => rfl
  | succ k ih =>
    rw [wrt, World.cell?_setCell_other _ _ _ _ (by simp only [ne_eq, Addr.mk.injEq, true_and, and_true]; omega)]
    exact ih (by omega) (by omega)
theorem wrt_new (w : World) (g off n v k i : Nat) (hk : k ≤ n) (hi : n - k ≤ i) (hn : i < n) (h : ∀ i, i < n → ∃ x, w.cell? ⟨g, off + i, none⟩ = some x) :
    (wrt w g off n v k).cell? ⟨g, off + i, none⟩ = some (.int .u8 ((v / 256 ^ (n - 1 - i) % 256 : Nat) : Int)) := by
  induction k with
  | zero => omega
  | succ k ih =>
    rw [wrt]
    by_cases e : i = n - 1 - k
    · subst e
      obtain ⟨x, hx⟩ := h (n - 1 - k) (by omega)
      rw [← wrt_old w g off n v k (n - 1 - k) (by omega) (by omega)] at hx
      rw [World.cell?_setCell_same _ _ _ hx, show n - 1 - (n - 1 - k) = k by omega]
    · rw [World.cell?_setCell_other _ _ _ _ (by simp only [ne_eq, Addr.mk.injEq, true_and, and_true]; omega)]
      exact ih (by omega) (by omega)
theorem wrt_seg (w : World) (g off n v : Nat) (h : ∀ i, i < n → ∃ x, w.cell? ⟨g, off + i, none⟩ = some x) : Seg .u8 (wrt w g off n v n) (some ⟨g, off, none⟩) (toI (byN n v)) := by
  refine .inr ⟨g, off, rfl, fun i hi => ?_⟩
  rw [toI_len, byN_len] at hi
  rw [wrt_new w g off n v n i (Nat.le_refl _) (by omega) hi h, toI_getD]
  simp [byN, List.getD, hi]
theorem div_step (v k : Nat) : v / 256 ^ k / 256 = v / 256 ^ (k + 1) := by rw [Nat.div_div_eq_div_mul, Nat.pow_succ]
theorem u8_of (x : Nat) : IntKind.u8.wrap (x : Int) = ((x % 256 : Nat) : Int) := by rw [IntKind.wrap_u8]; omega

set_option maxHeartbeats 800000 in
theorem write_any (g off n c v : Nat) (w : World) (h : ∀ i, i < n → ∃ x, w.cell? ⟨g, off + i, none⟩ = some x) (hf : ∀ i, w.frozen? ⟨g, i, none⟩ = false) (hn : n ≤ 8) :
    Calls Tryd.prog 84 #[.slice (some ⟨g, off, none⟩) n c, .int .u64 v] w fun e w' => e = .returned (.tuple #[]) ∧ w' = wrt w g off n v n := by
  go_enter Tryd.func84, Tryd.ntmps84
  go_wp2
  go_loopw [1, 4] (fun x ix wr => ∃ k : Nat, k ≤ n ∧ ix = .int .i64 ((n : Int) - 1 - k) ∧ x = .int .u64 ((v / 256 ^ k : Nat) : Int) ∧ wr = wrt w g off n v k) (fun _ ix _ => (intOf ix + 1).toNat)
  case atStart => exact ⟨0, Nat.zero_le _, by simp, by simp, rfl⟩
  case round =>
    obtain ⟨k, hk, rfl, rfl, rfl⟩ := hrel
    by_cases hlt : k < n
    · obtain ⟨j, hj⟩ : ∃ j : Nat, j = n - 1 - k := ⟨_, rfl⟩
      have hji : (n : Int) - 1 - k = (j : Int) := by omega
      obtain ⟨x, hx⟩ := h j (by omega)
      have hc : (wrt w g off n v k).cell? ⟨g, off + j, none⟩ = some x := by rw [wrt_old w g off n v k j (by omega) (by omega)]; exact hx
      have hfz : (wrt w g off n v k).frozen? ⟨g, off + j, none⟩ = false := by rw [wrt_fz]; exact hf _
      have hst : wrt w g off n v (k + 1) = (wrt w g off n v k).setCell ⟨g, off + j, none⟩ (.int .u8 ((v / 256 ^ k % 256 : Nat) : Int)) := by rw [hj]; rfl
      have hjn : j < n := by omega
      obtain ⟨y, hy⟩ : ∃ y, y = v / 256 ^ k := ⟨_, rfl⟩
      have hy2 : y / 256 = v / 256 ^ (k + 1) := by rw [hy, div_step]
      have hu := u8_of y
      rw [← hy] at hst ⊢
      rw [hji]
      obtain ⟨W, hW⟩ : ∃ W, W = wrt w g off n v k := ⟨_, rfl⟩
      rw [← hW] at hst hc hfz ⊢
      have HST : Hid _ := hst
      have HY : Hid _ := hy2
      have HJ : Hid ((n : Int) - 1 - k = (j : Int)) := hji
      clear hst hW hy2 hy hj hji hx h
      go_wp2
      go_roundw
      case rel => exact ⟨k + 1, by omega, by have := HJ.out; go_num, by rw [← HY.out]; go_num, HST.out.symm⟩
      case measure => simp [intOf]
    · obtain rfl : k = n := by omega
      go_wp2
      go_end0
      exact ⟨rfl, rfl⟩


/-- a part that is handed in -/
structure PV where
  a : Option Addr
  cap : Nat
  bs : List Nat
def flat : List PV → List Nat
  | [] => []
  | p :: ps => p.bs ++ flat ps
theorem flat_snoc (ps : List PV) (p : PV) : flat (ps ++ [p]) = flat ps ++ p.bs := by
  induction ps with
  | nil => simp [flat]
  | cons q ps ih => simp [flat, ih]
theorem flat_take (ps : List PV) (k : Nat) (p : PV) (h : ps[k]? = some p) : flat (ps.take (k + 1)) = flat (ps.take k) ++ p.bs := by
  have hk : k < ps.length := (List.getElem?_eq_some_iff.1 h).1
  have e : ps[k] = p := (List.getElem?_eq_some_iff.1 h).2
  rw [List.take_succ_eq_append_getElem hk, e, flat_snoc]
theorem flat_le (ps : List PV) (k : Nat) : (flat (ps.take k)).length ≤ (flat ps).length := by
  induction ps generalizing k with
  | nil => simp [flat]
  | cons q ps ih =>
    cases k with
    | zero => simp [flat]
    | succ k => simp [flat]; exact ih k
/-- the list of parts lies in memory, outside the blocks S -/
def PartsAt (w : World) (S : Nat → Prop) (pa : Option Addr) (ps : List PV) : Prop :=
  ps = [] ∨ ∃ b off, pa = some ⟨b, off, none⟩ ∧ ¬ S b ∧ b < w.heap.size ∧ ∀ i p, ps[i]? = some p → w.cell? ⟨b, off + i, none⟩ = some (.slice p.a p.bs.length p.cap) ∧ Seg .u8 w p.a (toI p.bs) ∧ ∀ x, toI p.bs ≠ [] → p.a = some x → ¬ S x.block
theorem PartsAt.ch {w w' : World} {S : Nat → Prop} {pa : Option Addr} {ps : List PV} (h : PartsAt w S pa ps) (k : Ch S w w') : PartsAt w' S pa ps := by
  rcases h with h | ⟨b, off, ha, hS, hlt, hc⟩
  · exact .inl h
  · refine .inr ⟨b, off, ha, hS, Nat.lt_of_lt_of_le hlt k.size, fun i p hp => ?_⟩
    obtain ⟨h1, h2, h3⟩ := hc i p hp
    exact ⟨k.cell h1 hS, k.seg h2 h3, h3⟩

/-- the builder behind an append to its row -/
theorem Bld.app {w w2 : World} {B : Nat} {v v' : Value} {mx : Nat} {l m : List Nat} (h : Bld w B v mx l) (ho : w2.ownsRow 0 5 1 v' (l ++ m).length ((toI (l ++ m)).map (Value.int .u8))) (hq : ∀ q, v'.ownBlock = some q → v.ownBlock = some q ∨ w.heap.size ≤ q) (hg : w.grownBy w2 v.ownBlock) :
    Bld (w2.setCell ⟨B, 0, none⟩ v') B v' mx (l ++ m) ∧ Ch (BS B v) w (w2.setCell ⟨B, 0, none⟩ v') := by
  have hlt := h.lt
  have hne : v'.ownBlock ≠ some B := fun e => by
    rcases hq B e with e | e
    · exact h.ne e
    · omega
  have hb : some B ≠ v.ownBlock := fun e => h.ne e.symm
  have h0 : w2.cell? ⟨B, 0, none⟩ = some v := hg.cell h.c0 hb
  have hch : Ch (BS B v) w w2 := (Ch.ofGrown hg).mono (fun x _ hx => .inr hx)
  refine ⟨⟨World.cell?_setCell_same _ _ _ h0, ?_, ?_, ?_, ?_, hne⟩, hch.set _ _ (.inl rfl)⟩
  · rw [World.cell?_setCell_other _ _ _ _ (by simp)]; exact hg.cell h.c1 hb
  · intro j; rw [World.frozen?_setCell, World.frozen?_of_block (hg.block B hlt hb)]; exact h.fz j
  · have := hg.size; simp; omega
  · exact ((Ch.refl (fun x => x = B) w2).set ⟨B, 0, none⟩ v' rfl).owns ho (fun g hg' e => hne (by rw [hg', e]))

set_option maxRecDepth 100000 in
set_option maxHeartbeats 800000 in
theorem bytesB_ok (B : Nat) (v : Value) (mx : Nat) (l : List Nat) (pa : Option Addr) (cap : Nat) (ps : List PV) (w : World) (h : Bld w B v mx l) (hp : PartsAt w (BS B v) pa ps) (hfit : l.length + (flat ps).length ≤ mx) (hmx : mx ≤ 65535) (hpl : ps.length ≤ 9223372036854775807) :
    Calls Tryd.prog 72 #[.pointer (some ⟨B, 0, none⟩), .slice pa ps.length cap] w fun e w' => e = .returned (.int .i64 0) ∧ ∃ v', Bld w' B v' mx (l ++ flat ps) ∧ (∀ q, v'.ownBlock = some q → v.ownBlock = some q ∨ w.heap.size ≤ q) ∧ Ch (BS B v) w w' := by
  obtain ⟨i0, hi, hz0, hz1, hz2⟩ := info_parts Tryd.infoByte
  have h0 := h.c0
  have h1 := h.c1
  obtain ⟨a, c, rfl⟩ := owns_shape h.own
  go_enter Tryd.func72, Tryd.ntmps72
  go_wp2
  try go_region
  go_wp2
  go_loop [5, 22] (fun r ix => ∃ k : Nat, k ≤ ps.length ∧ ix = .int .i64 k ∧ r = .int .i64 ((mx : Int) - l.length - (flat (ps.take k)).length)) (fun _ ix => ps.length - (intOf ix).toNat)
  case atStart => exact ⟨0, Nat.zero_le _, rfl, by simp [flat]⟩
  case round =>
    obtain ⟨k, hk, rfl, rfl⟩ := hrel
    by_cases hlt : k < ps.length
    · obtain ⟨p, hpk⟩ : ∃ p, ps[k]? = some p := ⟨ps[k], by simp [hlt]⟩
      rcases hp with hnil | ⟨b, off, rfl, hSb, hbl, hc⟩
      · rw [hnil] at hlt; simp at hlt
      obtain ⟨hcc, _, _⟩ := hc k p hpk
      have hft := flat_take ps k p hpk
      have hfl := flat_le ps (k + 1)
      rw [hft, List.length_append] at hfl
      have HFT : Hid _ := hft
      obtain ⟨f, hf⟩ : ∃ f, f = (flat (ps.take k)).length := ⟨_, rfl⟩
      rw [← hf] at hfl ⊢
      obtain ⟨q, hq⟩ : ∃ q, q = p.bs.length := ⟨_, rfl⟩
      rw [← hq] at hfl hcc
      have HF : Hid (f = (flat (ps.take k)).length) := hf
      have HQ : Hid (q = p.bs.length) := hq
      obtain ⟨F, hF⟩ : ∃ F, F = (flat ps).length := ⟨_, rfl⟩
      rw [← hF] at hfit hfl
      clear hft hf hq hpk hc hF
      go_wp2
      go_round
      case rel => exact ⟨k + 1, by omega, by go_num, by rw [HFT.out, List.length_append, ← HF.out, ← HQ.out]; go_num⟩
      case measure => simp [intOf]; omega
    · obtain ⟨r, hr⟩ : ∃ r, r = (mx : Int) - l.length - (flat (ps.take k)).length := ⟨_, rfl⟩
      rw [← hr]
      clear hr
      go_wp2
      obtain ⟨v, hv⟩ : ∃ v, v = Value.slice a l.length c := ⟨_, rfl⟩
      rw [← hv] at h hp ⊢
      have HV : Hid (v = Value.slice a l.length c) := hv
      clear hv h0 h1
      go_loopw [37] (fun ix wr => ∃ (j : Nat) (v' : Value), j ≤ ps.length ∧ ix = .int .i64 j ∧ Bld wr B v' mx (l ++ flat (ps.take j)) ∧ (∀ q, v'.ownBlock = some q → v.ownBlock = some q ∨ w.heap.size ≤ q) ∧ Ch (BS B v) w wr) (fun ix _ => ps.length - (intOf ix).toNat)
      case atStart => exact ⟨0, v, Nat.zero_le _, rfl, by simpa [flat] using h.below (Below.refl _ _).drew, fun q hq => .inl hq, (Ch.refl _ _).drew⟩
      case round =>
        obtain ⟨j, v', hj, rfl, hb, hq, hch⟩ := hrel
        by_cases hjl : j < ps.length
        · obtain ⟨p, hpk⟩ : ∃ p, ps[j]? = some p := ⟨ps[j], by simp [hjl]⟩
          have hpw := hp.ch hch
          rcases hpw with hnil | ⟨b, off, rfl, hSb, hbl, hc⟩
          · rw [hnil] at hjl; simp at hjl
          obtain ⟨hcc, hsg, _⟩ := hc j p hpk
          have hft := flat_take ps j p hpk
          have hfl := flat_le ps (j + 1)
          rw [hft, List.length_append] at hfl
          obtain ⟨m, hm⟩ : ∃ m, m = l ++ flat (ps.take j) := ⟨_, rfl⟩
          have hml : m.length + p.bs.length ≤ 65535 := by rw [hm, List.length_append]; omega
          rw [← hm] at hb
          have HM : Hid (l ++ flat (ps.take (j + 1)) = m ++ p.bs) := by show _ = _; rw [hft, hm, List.append_assoc]
          have d0 := hb.c0
          have hown := hb.own
          obtain ⟨a', c', hsh⟩ := owns_shape hown
          rw [hsh] at d0
          have HSH : Hid (v' = .slice a' m.length c') := hsh
          obtain ⟨ml, hmle⟩ : ∃ ml, ml = m.length := ⟨_, rfl⟩
          rw [← hmle] at d0 hml
          have HML : Hid (ml = m.length) := hmle
          obtain ⟨pl, hple⟩ : ∃ pl, pl = p.bs.length := ⟨_, rfl⟩
          rw [← hple] at hcc hml
          have HPL : Hid (pl = p.bs.length) := hple
          rw [hsh, ← hmle] at hown
          have hfz := hb.fz 0
          have hblt := hb.lt
          have hneB := hb.ne
          clear hft hfl hm hc hpk hsh hmle hple
          go_wp2_with (at_builtin; go_loud (refine append_split_seg rfl (.tmp 45) (.tmp 46) 25 rfl 0 5 i0 (.int .u8 0) 1 Tryd.underlying25 hi hz0 hz1 hz2 rfl (.slice a' ml c') ml ((toI m).map (Value.int .u8)) rfl hown .u8 p.a pl p.cap (toI p.bs) rfl (by rw [toI_len, HPL.out]) hsg (by unfold maxLen; omega) (by omega) (Nat.zero_le _) ?_))
          intro v2 w2 ho2 hq2 hg2
          have hvv : v' = .slice a' ml c' := by rw [HML.out]; exact HSH.out
          rw [← hvv] at hq2 hg2
          rw [← List.map_append, HML.out, HPL.out, ← List.length_append, show toI m ++ toI p.bs = toI (m ++ p.bs) by simp [toI]] at ho2
          obtain ⟨a2, c2, rfl⟩ := owns_shape ho2
          have happ := hb.app ho2 hq2 hg2
          obtain ⟨n2, hn2⟩ : ∃ n2, n2 = (m ++ p.bs).length := ⟨_, rfl⟩
          rw [← hn2] at happ hq2 ⊢
          clear hn2 ho2
          have e0 : w2.cell? ⟨B, 0, none⟩ = some (.slice a' ml c') := hg2.cell d0 (fun e => hneB e.symm)
          have ef : w2.frozen? ⟨B, 0, none⟩ = false := by rw [World.frozen?_of_block (hg2.block B hblt (fun e => hneB e.symm))]; exact hfz
          have hch2 : Ch (BS B v) w (w2.setCell ⟨B, 0, none⟩ (Value.slice a2 n2 c2)) := hch.trans happ.2 (fun x hx hs => by
            rcases hs with hs | hs
            · exact .inl hs
            · rcases hq x hs with h | h
              · exact .inr h
              · omega)
          have hq3 : ∀ q, (Value.slice a2 n2 c2).ownBlock = some q → v.ownBlock = some q ∨ w.heap.size ≤ q := fun q h => by
            rcases hq2 q h with h | h
            · exact hq q h
            · have := hch.size; exact .inr (by omega)
          rw [← HM.out] at happ
          have HA : Hid (Bld (w2.setCell ⟨B, 0, none⟩ (Value.slice a2 n2 c2)) B (Value.slice a2 n2 c2) mx (l ++ flat (ps.take (j + 1)))) := happ.1
          have HQ3 : Hid (∀ q, (Value.slice a2 n2 c2).ownBlock = some q → v.ownBlock = some q ∨ w.heap.size ≤ q) := hq3
          clear happ hq2 hg2 hown hb hvv hq3 hneB hcc d0 hfz
          go_wp2
          go_roundw
          case rel => exact ⟨j + 1, _, by omega, by go_num, HA.out, HQ3.out, hch2⟩
          case measure => simp [intOf]; omega
        · have hjj : j = ps.length := by omega
          have HB : Hid (Bld wr B v' mx (l ++ flat ps)) := by
            show Bld wr B v' mx (l ++ flat ps)
            rw [hjj, List.take_length] at hb
            exact hb
          clear hb hjj
          go_wp2
          go_ret
          rw [HV.out] at hq hch
          exact ⟨rfl, v', HB.out, hq, hch⟩

set_option maxRecDepth 100000 in
set_option maxHeartbeats 800000 in
theorem bytesB_no (B : Nat) (v : Value) (mx : Nat) (l : List Nat) (pa : Option Addr) (cap : Nat) (ps : List PV) (w : World) (h : Bld w B v mx l) (hp : PartsAt w (BS B v) pa ps) (hfit : mx < l.length + (flat ps).length) (hmx : mx ≤ 65535) (hl : l.length ≤ mx) (hpl : ps.length ≤ 9223372036854775807) (hbs : ∀ p ∈ ps, p.bs.length ≤ 4611686018427387904) :
    Calls Tryd.prog 72 #[.pointer (some ⟨B, 0, none⟩), .slice pa ps.length cap] w fun e w' => e = .returned (.int .i64 13) ∧ Below w.heap.size w w' := by
  have h0 := h.c0
  have h1 := h.c1
  obtain ⟨a, c, rfl⟩ := owns_shape h.own
  go_enter Tryd.func72, Tryd.ntmps72
  go_wp2
  go_region
  go_wp2
  go_loop [5, 22] (fun r ix => ∃ k : Nat, k ≤ ps.length ∧ ix = .int .i64 k ∧ r = .int .i64 ((mx : Int) - l.length - (flat (ps.take k)).length) ∧ l.length + (flat (ps.take k)).length ≤ mx) (fun _ ix => ps.length - (intOf ix).toNat)
  case atStart => exact ⟨0, Nat.zero_le _, rfl, by simp [flat], by simpa [flat] using hl⟩
  case round =>
    obtain ⟨k, hk, rfl, rfl, hle⟩ := hrel
    by_cases hlt : k < ps.length
    · obtain ⟨p, hpk⟩ : ∃ p, ps[k]? = some p := ⟨ps[k], by simp [hlt]⟩
      rcases hp with hnil | ⟨b, off, rfl, hSb, hbl, hc⟩
      · rw [hnil] at hlt; simp at hlt
      obtain ⟨hcc, _, _⟩ := hc k p hpk
      have hft := flat_take ps k p hpk
      have HFT : Hid _ := hft
      have hpb := hbs p (List.mem_of_getElem? hpk)
      obtain ⟨f, hf⟩ : ∃ f, f = (flat (ps.take k)).length := ⟨_, rfl⟩
      rw [← hf] at hle ⊢
      obtain ⟨q, hq⟩ : ∃ q, q = p.bs.length := ⟨_, rfl⟩
      rw [← hq] at hcc hpb
      have HF : Hid (f = (flat (ps.take k)).length) := hf
      have HQ : Hid (q = p.bs.length) := hq
      clear hft hf hq hpk hc hbs
      by_cases hroom : (mx : Int) - l.length - f < q
      · go_wp2
        go_ret
        exact ⟨rfl, (Below.refl _ _).drew⟩
      · go_wp2
        go_round
        case rel => exact ⟨k + 1, by omega, by go_num, by rw [HFT.out, List.length_append, ← HF.out, ← HQ.out]; go_num, by rw [HFT.out, List.length_append, ← HF.out, ← HQ.out]; omega⟩
        case measure => simp [intOf]; omega
    · have hkk : k = ps.length := by omega
      rw [hkk, List.take_length] at hle
      omega


set_option maxRecDepth 100000 in
set_option maxHeartbeats 800000 in
theorem putB_arg (B : Nat) (n : Int) (x : Int) (w : World) (h : n < 1 ∨ 8 < n) :
    Calls Tryd.prog 86 #[.pointer (some ⟨B, 0, none⟩), .int .i64 n, .int .u64 x] w fun e w' => e = .returned (.int .i64 1) ∧ Below w.heap.size w w' := by
  have HH : Hid (n < 1 ∨ 8 < n) := h
  clear h
  go_enter Tryd.func86, Tryd.ntmps86
  go_wp2_with fail
  refine (fits_arg n x _ HH.out).mono ?_
  rintro e w1 ⟨rfl, rfl⟩
  go_wp2
  go_ret
  exact ⟨rfl, Below.refl _ _⟩
set_option maxRecDepth 100000 in
set_option maxHeartbeats 800000 in
theorem putB_val (B : Nat) (n x : Nat) (w : World) (h1 : 1 ≤ n) (h8 : n ≤ 8) (hx : 256 ^ n ≤ x) :
    Calls Tryd.prog 86 #[.pointer (some ⟨B, 0, none⟩), .int .i64 n, .int .u64 x] w fun e w' => e = .returned (.int .i64 12) ∧ Below w.heap.size w w' := by
  have HH : Hid (256 ^ n ≤ x) := hx
  clear hx
  go_enter Tryd.func86, Tryd.ntmps86
  go_wp2_with fail
  refine (fits_val n x _ h1 h8 HH.out).mono ?_
  rintro e w1 ⟨rfl, rfl⟩
  go_wp2
  go_ret
  exact ⟨rfl, Below.refl _ _⟩
theorem Tryd.len8 : Tryd.prog.arrayLen 144 = 8 := by kernel_rfl
theorem Tryd.und8 : Tryd.prog.underlying 144 = some (.array (Tryd.prog.arrayLen 144) (Tryd.prog.elem 144)) := by kernel_rfl
theorem Tryd.size8 (W : World) : (sizeOf (Tryd.prog.elem 144)).run Tryd.prog W = .ok 1 W := by
  have e : Tryd.prog.elem 144 = 5 := by kernel_rfl
  obtain ⟨i0, hi, hz0, hz1, hz2⟩ := info_parts Tryd.infoByte
  rw [e]
  simp [sizeOf, typeInfo, hi, hz1]
theorem slice8 (W : World) (B : Nat) (n : Nat) (h : n ≤ 8) : (Instr.sliceAt 144 (.pointer (some ⟨B, 0, none⟩)) none (some (.int .i64 n)) none).run Tryd.prog W = .ok (.slice (some ⟨B, 0, none⟩) n 8) W := by
  rw [run_sliceAt_array_h W _ _ Tryd.und8 .i64 n (by omega) (by rw [Tryd.len8]; omega), Tryd.size8, Tryd.len8]
  simp [slicedAt, Result.andThen, Addr.add]

theorem parts_one (w : World) (S : Nat → Prop) (N n : Nat) (l : List Nat) (hl : l.length = n) (hseg : Seg .u8 w (some ⟨N, 0, none⟩) (toI l)) (hN : ¬ S N) (hM : ¬ S w.heap.size) :
    PartsAt (w.alloc (.cells #[.slice (some ⟨N, 0, none⟩) n 8] 25)) S (some ⟨w.heap.size, 0, none⟩) [⟨some ⟨N, 0, none⟩, 8, l⟩] := by
  refine .inr ⟨_, _, rfl, hM, by simp, fun i p hp => ?_⟩
  cases i with
  | zero =>
    simp at hp
    subst hp
    refine ⟨by simp [go_sem, hl], hseg.old ((Below.refl _ _).alloc (Nat.le_refl _) _), ?_⟩
    intro y _ hy
    simp at hy
    subst hy
    exact hN
  | succ i => simp at hp
theorem bs_out {w : World} {B : Nat} {v : Value} {mx : Nat} {l : List Nat} (h : Bld w B v mx l) (k : Nat) (hk : w.heap.size ≤ k) : ¬ BS B v k := by
  rintro (e | e)
  · have := h.lt; omega
  · have := (h.own.lt k e).2; omega
theorem eight_cells (w : World) (X : Array Value) (t : TypeId) (hX : X.size = 8) (n i : Nat) (hn : n ≤ 8) (hi : i < n) : ∃ x, (w.alloc (.cells X t)).cell? ⟨w.heap.size, 0 + i, none⟩ = some x := by
  refine ⟨X[i], ?_⟩
  rw [Nat.zero_add, World.cell?_alloc_at _ _ _ _ rfl]
  simp [show i < X.size by omega]

set_option maxRecDepth 100000 in
set_option maxHeartbeats 800000 in
/-- what Put does with the builder, whatever Bytes answers -/
theorem putB_go (B : Nat) (v : Value) (mx : Nat) (l : List Nat) (n x : Nat) (w : World) (er : Int) (Q : World → Prop) (h : Bld w B v mx l) (h1 : 1 ≤ n) (h8 : n ≤ 8) (hx : x < 256 ^ n)
    (hbb : ∀ W pa, Below w.heap.size w W → PartsAt W (BS B v) pa [⟨some ⟨w.heap.size, 0, none⟩, 8, byN n x⟩] → Calls Tryd.prog 72 #[.pointer (some ⟨B, 0, none⟩), .slice pa 1 1] W fun e w' => e = .returned (.int .i64 er) ∧ Q w') :
    Calls Tryd.prog 86 #[.pointer (some ⟨B, 0, none⟩), .int .i64 n, .int .u64 x] w fun e w' => e = .returned (.int .i64 er) ∧ Q w' := by
  have HH : Hid (x < 256 ^ n) := hx
  have HBB : Hid (∀ W pa, Below w.heap.size w W → PartsAt W (BS B v) pa [⟨some ⟨w.heap.size, 0, none⟩, 8, byN n x⟩] → Calls Tryd.prog 72 #[.pointer (some ⟨B, 0, none⟩), .slice pa 1 1] W fun e w' => e = .returned (.int .i64 er) ∧ Q w') := hbb
  have hsl : ∀ W, (Instr.sliceAt 144 (.pointer (some ⟨w.heap.size, 0, none⟩)) none (some (.int .i64 n)) none).run Tryd.prog W = .ok (.slice (some ⟨w.heap.size, 0, none⟩) n 8) W := fun W => slice8 W w.heap.size n h8
  clear hx hbb
  go_enter Tryd.func86, Tryd.ntmps86
  go_wp2_with fail
  refine (fits_ok n x _ h1 h8 HH.out).mono ?_
  rintro e w1 ⟨rfl, rfl⟩
  go_wp2_with fail
  obtain ⟨wN, hwN⟩ : ∃ wN, wN = w.alloc (.cells #[.int .u8 0, .int .u8 0, .int .u8 0, .int .u8 0, .int .u8 0, .int .u8 0, .int .u8 0, .int .u8 0] 144) := ⟨_, rfl⟩
  have hcel : ∀ i, i < n → ∃ x, wN.cell? ⟨w.heap.size, 0 + i, none⟩ = some x := by rw [hwN]; exact fun i hi => eight_cells w _ _ rfl n i h8 hi
  have hfz : ∀ i, wN.frozen? ⟨w.heap.size, i, none⟩ = false := by intro i; rw [hwN]; simp [go_sem]
  have hbN : Below w.heap.size w wN := by rw [hwN]; exact (Below.refl _ _).alloc (Nat.le_refl _) _
  rw [← hwN]
  clear hwN
  refine (write_any w.heap.size 0 n 8 x wN hcel hfz h8).mono ?_
  rintro e w2 ⟨rfl, hw2⟩
  have hsg : Seg .u8 w2 (some ⟨w.heap.size, 0, none⟩) (toI (byN n x)) := by rw [hw2]; exact wrt_seg wN w.heap.size 0 n x hcel
  have hch2 : Ch (fun k => k = w.heap.size) wN w2 := by rw [hw2]; exact wrt_ch _ _ _ _ _ _
  have hb2 : Below w.heap.size w w2 := hbN.trans (hch2.below (fun y hy => by rw [hy]; exact Nat.le_refl _) hbN.size)
  clear hw2 hch2 hcel hfz
  go_wp2_with fail
  refine Calls.mono (HBB.out _ _ (hb2.alloc hb2.size _) (parts_one w2 (BS B v) w.heap.size n (byN n x) (byN_len n x) hsg (bs_out h _ (Nat.le_refl _)) (bs_out h _ hb2.size))) ?_
  rintro e w3 ⟨rfl, hq⟩
  go_wp2
  go_ret
  exact ⟨rfl, hq⟩

set_option maxRecDepth 100000 in
set_option maxHeartbeats 800000 in
theorem putB_ok (B : Nat) (v : Value) (mx : Nat) (l : List Nat) (n x : Nat) (w : World) (h : Bld w B v mx l) (h1 : 1 ≤ n) (h8 : n ≤ 8) (hx : x < 256 ^ n) (hfit : l.length + n ≤ mx) (hmx : mx ≤ 65535) :
    Calls Tryd.prog 86 #[.pointer (some ⟨B, 0, none⟩), .int .i64 n, .int .u64 x] w fun e w' => e = .returned (.int .i64 0) ∧ ∃ v', Bld w' B v' mx (l ++ byN n x) ∧ (∀ q, v'.ownBlock = some q → v.ownBlock = some q ∨ w.heap.size ≤ q) ∧ Ch (BS B v) w w' := by
  refine (putB_go B v mx l n x w 0 (fun w' => ∃ v', Bld w' B v' mx (l ++ byN n x) ∧ (∀ q, v'.ownBlock = some q → v.ownBlock = some q ∨ w.heap.size ≤ q) ∧ Ch (BS B v) w w') h h1 h8 hx ?_).mono (fun e w' hh => hh)
  intro W pa hW hpa
  refine (bytesB_ok B v mx l pa 1 [⟨some ⟨w.heap.size, 0, none⟩, 8, byN n x⟩] W (h.below hW) hpa (by simp [flat, byN_len]; exact hfit) hmx (by simp)).mono ?_
  rintro e w' ⟨rfl, v', hb, hq, hch⟩
  refine ⟨rfl, v', by simpa [flat] using hb, fun q hh => ?_, (Ch.ofBelow (S := BS B v) hW).trans hch (fun _ _ s => s)⟩
  rcases hq q hh with h' | h'
  · exact .inl h'
  · have := hW.size; exact .inr (by omega)
theorem putB_no (B : Nat) (v : Value) (mx : Nat) (l : List Nat) (n x : Nat) (w : World) (h : Bld w B v mx l) (h1 : 1 ≤ n) (h8 : n ≤ 8) (hx : x < 256 ^ n) (hl : l.length ≤ mx) (hfit : mx < l.length + n) (hmx : mx ≤ 65535) :
    Calls Tryd.prog 86 #[.pointer (some ⟨B, 0, none⟩), .int .i64 n, .int .u64 x] w fun e w' => e = .returned (.int .i64 13) ∧ Below w.heap.size w w' := by
  refine (putB_go B v mx l n x w 13 (fun w' => Below w.heap.size w w') h h1 h8 hx ?_).mono (fun e w' hh => hh)
  intro W pa hW hpa
  refine (bytesB_no B v mx l pa 1 [⟨some ⟨w.heap.size, 0, none⟩, 8, byN n x⟩] W (h.below hW) hpa (by simp [flat, byN_len]; exact hfit) hmx hl (by simp) (by intro p hp; simp at hp; subst hp; simp [byN_len]; omega)).mono ?_
  rintro e w' ⟨rfl, hb⟩
  exact ⟨rfl, hW.trans (hb.mono hW.size)⟩
/-- a builder behind a call: what it holds, where -/
def After (K : World → Nat → Value → Nat → List Nat → Prop) (w : World) (B : Nat) (v : Value) (mx : Nat) (l' : List Nat) (w' : World) : Prop :=
  ∃ v', K w' B v' mx l' ∧ (∀ q, v'.ownBlock = some q → v.ownBlock = some q ∨ w.heap.size ≤ q) ∧ Ch (BS B v) w w'
theorem After.same {K : World → Nat → Value → Nat → List Nat → Prop} {w w' : World} {B : Nat} {v : Value} {mx : Nat} {l : List Nat} (h : K w' B v mx l) (hb : Below w.heap.size w w') : After K w B v mx l w' := ⟨v, h, fun _ hq => .inl hq, Ch.ofBelow hb⟩



/-- m laid over l from at' on -/
def spl (l : List Nat) (at' : Nat) (m : List Nat) : List Nat := l.take at' ++ m ++ l.drop (at' + m.length)
theorem spl_len (l : List Nat) (at' : Nat) (m : List Nat) (h : at' + m.length ≤ l.length) : (spl l at' m).length = l.length := by
  simp [spl]; omega
theorem spl_get (l : List Nat) (at' : Nat) (m : List Nat) (h : at' + m.length ≤ l.length) (i : Nat) : (spl l at' m)[i]? = if at' ≤ i ∧ i < at' + m.length then m[i - at']? else l[i]? := by
  unfold spl
  rw [List.append_assoc]
  by_cases h1 : i < at'
  · rw [List.getElem?_append_left (by simp; omega), if_neg (by omega), List.getElem?_take, if_pos h1]
  · rw [List.getElem?_append_right (by simp; omega)]
    have e : (l.take at').length = at' := by simp; omega
    rw [e]
    by_cases h2 : i < at' + m.length
    · rw [List.getElem?_append_left (by omega), if_pos (by omega)]
    · rw [List.getElem?_append_right (by omega), if_neg (by omega), List.getElem?_drop]
      congr 1; omega
theorem spl_256 (l : List Nat) (at' : Nat) (m : List Nat) (h : ∀ x ∈ l, x < 256) (h2 : ∀ x ∈ m, x < 256) : ∀ x ∈ spl l at' m, x < 256 := by
  intro x hx
  simp only [spl, List.mem_append] at hx
  rcases hx with (hx | hx) | hx
  · exact h x (List.mem_of_mem_take hx)
  · exact h2 x hx
  · exact h x (List.mem_of_mem_drop hx)
theorem spl_up (l : List Nat) (at' : Nat) (m : List Nat) (i : Nat) (hi : i < m.length) (h : at' + m.length ≤ l.length) : (spl l at' (m.take i)).set (at' + i) (m.getD i 0) = spl l at' (m.take (i + 1)) := by
  apply List.ext_getElem?
  intro j
  rw [List.getElem?_set, spl_get _ _ _ (by simp; omega), spl_get _ _ _ (by simp; omega), spl_len _ _ _ (by simp; omega)]
  have e1 : (m.take i).length = i := by simp; omega
  have e2 : (m.take (i + 1)).length = i + 1 := by simp; omega
  rw [e1, e2]
  by_cases hj : at' + i = j
  · subst hj
    rw [if_pos rfl, if_pos (by omega), if_pos (by omega), Nat.add_sub_cancel_left, List.getElem?_take, if_pos (by omega)]
    simp [List.getD, hi]
  · rw [if_neg hj]
    by_cases h3 : at' ≤ j ∧ j < at' + i
    · rw [if_pos h3, if_pos (by omega), List.getElem?_take, List.getElem?_take, if_pos (by omega), if_pos (by omega)]
    · rw [if_neg h3, if_neg (by omega)]
/-- the same from behind -/
def spd (l : List Nat) (at' : Nat) (m : List Nat) (k : Nat) : List Nat := spl l (at' + (m.length - k)) (m.drop (m.length - k))
theorem spd_zero (l : List Nat) (at' : Nat) (m : List Nat) : spd l at' m 0 = l := by
  simp [spd, spl]
theorem spd_all (l : List Nat) (at' : Nat) (m : List Nat) : spd l at' m m.length = spl l at' m := by simp [spd]
theorem spd_up (l : List Nat) (at' : Nat) (m : List Nat) (k : Nat) (hk : k < m.length) (h : at' + m.length ≤ l.length) : (spd l at' m k).set (at' + (m.length - 1 - k)) (m.getD (m.length - 1 - k) 0) = spd l at' m (k + 1) := by
  apply List.ext_getElem?
  intro j
  unfold spd
  rw [List.getElem?_set, spl_get _ _ _ (by simp; omega), spl_get _ _ _ (by simp; omega), spl_len _ _ _ (by simp; omega)]
  simp only [List.length_drop, List.getElem?_drop]
  by_cases hj : at' + (m.length - 1 - k) = j
  · subst hj
    rw [if_pos rfl, if_pos (by omega), if_pos (by omega)]
    rw [show m.length - (k + 1) + (at' + (m.length - 1 - k) - (at' + (m.length - (k + 1)))) = m.length - 1 - k by omega]
    simp [List.getD, show m.length - 1 - k < m.length by omega]
  · rw [if_neg hj]
    by_cases h3 : at' + (m.length - k) ≤ j ∧ j < at' + (m.length - k) + (m.length - (m.length - k))
    · rw [if_pos h3, if_pos (by omega)]
      congr 1; omega
    · rw [if_neg h3, if_neg (by omega)]
theorem byN_at (n x k : Nat) (h : k < n) : (byN n x).getD (n - 1 - k) 0 = x / 256 ^ k % 256 := by
  simp [byN, List.getD, show n - 1 - k < n by omega]
  rw [show n - 1 - (n - 1 - k) = k by omega]
theorem set_u8 (l : List Nat) (m y : Nat) : ((toI l).map (Value.int .u8)).set m (.int .u8 (y : Int)) = (toI (l.set m y)).map (Value.int .u8) := by
  simp [toI, List.map_set]
theorem wrt_own (w : World) (base g len c off n x : Nat) (l : List Nat) (hl : l.length = len) (hin : off + n ≤ len) (h : w.ownsRow base 5 1 (.slice (some ⟨g, 0, none⟩) len c) len ((toI l).map (Value.int .u8))) (k : Nat) (hk : k ≤ n) :
    (wrt w g off n x k).ownsRow base 5 1 (.slice (some ⟨g, 0, none⟩) len c) len ((toI (spd l off (byN n x) k)).map (Value.int .u8)) := by
  induction k with
  | zero => rw [spd_zero]; exact h
  | succ k ih =>
    have h1 := (ih (by omega)).stored (off + (n - 1 - k)) (.int .u8 ((x / 256 ^ k % 256 : Nat) : Int))
    have h2 := h1.1
    rw [set_u8] at h2
    have e := spd_up l off (byN n x) k (by rw [byN_len]; omega) (by rw [byN_len]; omega)
    rw [byN_len, byN_at n x k (by omega)] at e
    rw [e] at h2
    exact h2

/-- what Patch answers, and what stands then -/
def tE (at' n : Int) (x len : Nat) : Int := if n < 1 ∨ 8 < n then 1 else if 256 ^ n.toNat ≤ x then 12 else if at' < 0 ∨ (len : Int) < at' + n then 10 else 0
def tL (at' n : Int) (x : Nat) (l : List Nat) : List Nat := if tE at' n x l.length = 0 then spl l at'.toNat (byN n.toNat x) else l
theorem tE_fit (at' : Int) (m x len : Nat) (h1 : ¬ ((m : Int) < 1 ∨ 8 < (m : Int))) (h : x < 256 ^ m) : tE at' m x len = if at' < 0 ∨ (len : Int) < at' + m then 10 else 0 := by
  unfold tE
  rw [if_neg h1, Int.toNat_natCast, if_neg (by omega)]
theorem tE_zero (at' n : Int) (x len : Nat) (h : tE at' n x len = 0) : 1 ≤ n ∧ n ≤ 8 ∧ 0 ≤ at' ∧ at' + n ≤ len := by
  unfold tE at h
  split at h
  · simp at h
  · split at h
    · simp at h
    · split at h
      · simp at h
      · omega
theorem tL_len (at' n : Int) (x : Nat) (l : List Nat) : (tL at' n x l).length = l.length := by
  unfold tL
  split
  · rename_i e
    have := tE_zero _ _ _ _ e
    exact spl_len _ _ _ (by rw [byN_len]; omega)
  · rfl
theorem tL_256 (at' n : Int) (x : Nat) (l : List Nat) (h : ∀ y ∈ l, y < 256) : ∀ y ∈ tL at' n x l, y < 256 := by
  unfold tL
  split
  · exact spl_256 _ _ _ h (byN_lt _ _)
  · exact h
theorem own_block {w : World} {base : Nat} {e : TypeId} {v : Value} {n : Nat} {xs : List Value} (h : w.ownsRow base e 1 v n xs) (hn : 0 < n) : ∃ g c, v = .slice (some ⟨g, 0, none⟩) n c ∧ n ≤ c ∧ c ≤ maxLen := by
  rcases h.2 with ⟨_, e2⟩ | ⟨g, cap, cur, e, _, _, h1, h2, _⟩
  · omega
  · exact ⟨g, cap, e, h1, h2⟩

set_option maxRecDepth 100000 in
set_option maxHeartbeats 800000 in
theorem patchB_total (B : Nat) (v : Value) (mx : Nat) (l : List Nat) (at' n : Int) (x : Nat) (w : World) (h : Bld w B v mx l) (ha : at' ≤ 9223372036854775807) :
    Calls Tryd.prog 73 #[.pointer (some ⟨B, 0, none⟩), .int .i64 at', .int .i64 n, .int .u64 x] w fun e w' => e = .returned (.int .i64 (tE at' n x l.length)) ∧ After Bld w B v mx (tL at' n x l) w' := by
  by_cases h1 : n < 1 ∨ 8 < n
  · have e : tE at' n x l.length = 1 := if_pos h1
    rw [tL, e, if_neg (by decide)]
    have HH : Hid (n < 1 ∨ 8 < n) := h1
    clear h1
    go_enter Tryd.func73, Tryd.ntmps73
    go_wp2_with fail
    refine (fits_arg n x _ HH.out).mono ?_
    rintro e w1 ⟨rfl, rfl⟩
    go_wp2
    go_ret
    exact ⟨rfl, .same h (Below.refl _ _)⟩
  · obtain ⟨m, rfl⟩ : ∃ m : Nat, n = (m : Int) := ⟨n.toNat, by omega⟩
    by_cases h2 : 256 ^ m ≤ x
    · have e : tE at' m x l.length = 12 := by unfold tE; rw [if_neg h1, if_pos (by simpa using h2)]
      rw [tL, e, if_neg (by decide)]
      have HH : Hid (256 ^ m ≤ x) := h2
      clear h2
      go_enter Tryd.func73, Tryd.ntmps73
      go_wp2_with fail
      refine (fits_val m x _ (by omega) (by omega) HH.out).mono ?_
      rintro e w1 ⟨rfl, rfl⟩
      go_wp2
      go_ret
      exact ⟨rfl, .same h (Below.refl _ _)⟩
    · have HS : Hid (x < 256 ^ m) := by show _ < _; omega
      have h0 := h.c0
      obtain ⟨a, c, hv⟩ := owns_shape h.own
      rw [hv] at h0
      have hcap : l.length ≤ c ∧ c ≤ 9223372036854775807 := by
        obtain ⟨_, _, e, _, _, c1, c2⟩ := owns_seg h.own
        rw [hv] at e
        simp only [Value.slice.injEq, true_and] at e
        unfold maxLen at c2
        omega
      have HV : Hid (v = .slice a l.length c) := hv
      by_cases h3 : at' < 0 ∨ (l.length : Int) < at' + m
      · have e : tE at' m x l.length = 10 := by rw [tE_fit at' m x l.length h1 HS.out, if_pos h3]
        rw [tL, e, if_neg (by decide)]
        have HH : Hid (at' < 0 ∨ (l.length : Int) < at' + m) := h3
        clear h3 h2 e hv
        go_enter Tryd.func73, Tryd.ntmps73
        go_wp2_with fail
        refine (fits_ok m x _ (by omega) (by omega) HS.out).mono ?_
        rintro e w1 ⟨rfl, rfl⟩
        go_wp2_with fail
        refine (window_out a l.length c at' m _ (by omega) (by omega) hcap.1 hcap.2 ha HH.out).mono ?_
        rintro e w2 ⟨rfl, hb2⟩
        go_wp2
        go_ret
        exact ⟨rfl, .same (h.below hb2) hb2⟩
      · have e : tE at' m x l.length = 0 := by rw [tE_fit at' m x l.length h1 HS.out, if_neg h3]
        rw [tL, e, if_pos rfl]
        obtain ⟨p, rfl⟩ : ∃ p : Nat, at' = (p : Int) := ⟨at'.toNat, by omega⟩
        have hpm : p + m ≤ l.length := by omega
        have hm1 : 1 ≤ m := by omega
        have hm8 : m ≤ 8 := by omega
        obtain ⟨g, c', hv2, _, _⟩ := own_block h.own (by omega)
        clear HV
        subst hv2
        simp only [Value.slice.injEq, true_and] at hv
        obtain ⟨rfl, rfl⟩ := hv
        have hca : cutA (some ⟨g, 0, none⟩) p m = some ⟨g, p, none⟩ := by
          unfold cutA; rw [if_neg (by omega)]; simp [Addr.add]; omega
        simp only [Int.toNat_natCast]
        clear h3 h2 e h1
        go_enter Tryd.func73, Tryd.ntmps73
        go_wp2_with fail
        refine (fits_ok m x _ hm1 hm8 HS.out).mono ?_
        rintro e w1 ⟨rfl, rfl⟩
        go_wp2_with fail
        refine (window_ok (some ⟨g, 0, none⟩) l.length c' p m _ hpm hcap.1 hcap.2).mono ?_
        rintro e w2 ⟨rfl, hb2⟩
        rw [hca]
        have h' := h.below hb2
        have hcel : ∀ i, i < m → ∃ y, w2.cell? ⟨g, p + i, none⟩ = some y := fun i hi => by
          have := h'.own.cellAt (p + i) (by omega)
          rw [List.getElem?_eq_getElem (by simp [toI]; omega)] at this
          exact ⟨_, this⟩
        have hne : B ≠ g := fun e => h'.ne (by rw [e]; rfl)
        have HO : Hid _ := wrt_own w2 0 g l.length c' p m x l rfl hpm h'.own m (Nat.le_refl _)
        go_wp2_with fail
        refine (write_any g p m m x w2 hcel (fun i => h'.own.frozenAt i) hm8).mono ?_
        rintro e w3 ⟨rfl, hw3⟩
        have hch : Ch (fun k => k = g) w2 w3 := by rw [hw3]; exact wrt_ch _ _ _ _ _ _
        have hown : w3.ownsRow 0 5 1 (.slice (some ⟨g, 0, none⟩) l.length c') (spl l p (byN m x)).length ((toI (spl l p (byN m x))).map (Value.int .u8)) := by
          have e1 : spd l p (byN m x) m = spl l p (byN m x) := by
            have := spd_all l p (byN m x); rwa [byN_len] at this
          have := HO.out
          rw [← hw3, e1] at this
          rw [spl_len _ _ _ (by rw [byN_len]; exact hpm)]
          exact this
        have hB3 : Bld w3 B (.slice (some ⟨g, 0, none⟩) l.length c') mx (spl l p (byN m x)) :=
          ⟨hch.cell h'.c0 hne, hch.cell h'.c1 hne, fun j => (hch.frozen (p := ⟨B, j, none⟩) h'.lt hne).trans (h'.fz j), Nat.lt_of_lt_of_le h'.lt hch.size, hown, h'.ne⟩
        have hA : After Bld w B (.slice (some ⟨g, 0, none⟩) l.length c') mx (spl l p (byN m x)) w3 :=
          ⟨_, hB3, fun _ hq => .inl hq, (Ch.ofBelow hb2).trans hch (fun y _ hy => .inr (by rw [hy]; rfl))⟩
        clear hB3 hown hch hw3 HO hcel
        go_wp2
        go_ret
        exact ⟨rfl, hA⟩

end Go.Proofs.YtfoeepbndfnifaaDoor
