/-
  Layer 18: the caller's purse of tokens: made, ticked, asked.
-/
import Derived.Test.YtclkcpdghpaboaaQB5
namespace Go.Proofs.Ytclkcpdghpaboaa
open Go.RowKit Go.ChangeShapes Go.WideShapes

theorem i64_w {z : Int} (h : W64 z) : IntKind.i64.wrap z = z := by
  unfold W64 at h
  rw [IntKind.wrap_i64 z]
  omega
def inL (z : Int) : List Value := [.int .i64 z]
theorem inL_len (z : Int) : (inL z).length = 1 := rfl
theorem inL_one (z : Int) : ∀ u ∈ inL z, u.oneCell' = true := by simp [inL, Value.oneCell']
def PurAt (w : World) (p : Nat) (tv : Value) : Prop := w.heap[p]? = some (.cells #[tv] 58 (0, 0))
section
variable {w : World} {p : Nat} {tv : Value} (k : PurAt w p tv)
include k
theorem PurAt.lt : p < w.heap.size := (Array.getElem?_eq_some_iff.1 k).1
theorem PurAt.ch {S : Nat → Prop} {w' : World} (c : Ch S w w') (hS : ¬ S p) : PurAt w' p tv := (c.block p k.lt hS).trans k
theorem PurAt.below {w' : World} (c : Below w.heap.size w w') : PurAt w' p tv := (c.block p k.lt).trans k
theorem PurAt.cell : w.cell? ⟨p, 0, none⟩ = some tv := by unfold PurAt at k; simp [World.cell?, k]
theorem PurAt.fz (j : Nat) : w.frozen? ⟨p, j, none⟩ = false := by unfold PurAt at k; simp [World.frozen?, k]
theorem PurAt.set (u : Value) : PurAt (w.setCell ⟨p, 0, none⟩ u) p u := by
  unfold PurAt at k ⊢
  rw [heap_setCell_same _ _ _ _ _ _ k]
  rfl
end
/-- the purse in memory -/
structure PK (N : Nat) (w : World) (p : Nat) (tv : Value) (ts : List Int) : Prop where
  lo : N ≤ p
  at' : PurAt w p tv
  t : GL 1 inL 3 w N tv ts
section
variable {N : Nat} {w w' : World} {p : Nat} {tv : Value} {ts : List Int}
theorem PK.ch {S : Nat → Prop} (h : PK N w p tv ts) (k : Ch S w w') (h1 : ¬ S p) (h2 : ∀ q, tv.ownBlock = some q → ¬ S q) : PK N w' p tv ts := ⟨h.lo, h.at'.ch k h1, h.t.ch k h2⟩
theorem PK.below (h : PK N w p tv ts) (k : Below w.heap.size w w') : PK N w' p tv ts := ⟨h.lo, h.at'.below k, h.t.below k⟩
theorem PurAt.kp (h : PurAt w p tv) (k : Kp w w') : PurAt w' p tv := k.block p _ _ h (by decide) (by decide) (by decide)
theorem PK.kp (h : PK N w p tv ts) (k : Kp w w') : PK N w' p tv ts := ⟨h.lo, h.at'.kp k, k.gl h.t (by decide) (by decide) (by decide)⟩
theorem PK.mono {N' : Nat} (h : PK N w p tv ts) (hN : N' ≤ N) : PK N' w p tv ts := ⟨Nat.le_trans hN h.lo, h.at', h.t.mono hN⟩
end
theorem run_bs1z (z : Int) (w : World) : (Instr.buildSlice 23 1 #[(0, .int .i64 z)]).run Try.prog w = .ok (.slice (some ⟨w.heap.size, 0, none⟩) 1 1) (w.alloc (.cells #[.int .i64 z] 3)) := by kernel_rfl
theorem wpList_bs1z {ops : Array Oper} {rest : List Oper} {o : Oper} {a : Act} {w : World} {Q : Exit → Act → World → Prop} (y : Operand) (ho : o.op = .buildSlice 23 1 #[(0, y)]) (z : Int) (hx : a.eval y = .int .i64 z) (hw : Region.wanted o (yielded ops a.tmps) = true)
    (h : ∀ B W, Hid (w.heap.size = B ∧ W.heap.size = B + 1) → W.rangeAt B 0 (inL z) → Below w.heap.size w W → wpList Try.prog ops Q rest (a.put o.dst (.slice (some ⟨B, 0, none⟩) 1 1)) W) : wpList Try.prog ops Q (o :: rest) a w := by
  refine wpList_step fun K hK => ?_
  rw [if_pos hw]
  unfold Oper.wp execOp
  simp only [ho, Sem.run_bind, List.map_toArray, List.map_cons, List.map_nil, hx, run_bs1z z w, Result.andThen_ok]
  refine hK _ _ (h _ _ ⟨rfl, World.size_alloc _ _⟩ (fun j u hj => ?_) ((Below.refl _ _).alloc (Nat.le_refl _) _))
  rw [World.cell?_alloc_at _ _ _ _ rfl, Nat.zero_add]
  simpa [inL] using hj
theorem ListG.row {w : World} {a : Option Addr} {ls : List LI} (h : ListG 5 liL LiW w a ls) (i : Nat) (l : LI) (hl : ls[i]? = some l) : LiW l ∧ ∃ ab off, a = some ⟨ab, off, none⟩ ∧ w.rangeAt ab (off + i * 5) (liA l).toList := by
  obtain ⟨hlw, ab, off, ha, hlt, hlc⟩ := h.at i l hl
  refine ⟨hlw, ab, off, ha, fun j v hj => ?_⟩
  have hj' : j < 5 := (List.getElem?_eq_some_iff.1 hj).1
  rw [hlc j hj']
  exact hj
theorem range_ch {S : Nat → Prop} {w w' : World} {g off : Nat} {L : List Value} (h : w.rangeAt g off L) (k : Ch S w w') (hS : ¬ S g) : w'.rangeAt g off L := fun j u hj => k.cell (h j u hj) hS
theorem range_bel {w w' : World} {g off : Nat} {L : List Value} (h : w.rangeAt g off L) (b : Below w.heap.size w w') : w'.rangeAt g off L := fun j u hj => (World.cell?_of_block (b.block _ (World.block_lt_of_cell? _ _ (h j u hj)))).trans (h j u hj)
theorem range_lt {w : World} {g off : Nat} {l : LI} (h : w.rangeAt g off (liA l).toList) : g < w.heap.size := World.block_lt_of_cell? w ⟨g, off + 0, none⟩ (h 0 _ rfl)
set_option maxHeartbeats 3200000 in
set_option maxRecDepth 100000 in
theorem purse_any (a : Option Addr) (n c : Nat) (ls : List LI) (w : World) (hL : ListG 5 liL LiW w a ls) (hn : ls.length = n) (h8 : n ≤ 8) : Calls Try.prog 27 #[.slice a n c] w fun e w' => ∃ p tv, e = .returned (.pointer (some ⟨p, 0, none⟩)) ∧ PK w.heap.size w' p tv (ls.map LI.bu) ∧ Below w.heap.size w w' := by
  have HL : Hid (ListG 5 liL LiW w a ls ∧ ls.length = n) := ⟨hL, hn⟩
  have H0 : Hid (PK w.heap.size (w.alloc (.cells #[.slice none 0 0] 58)) w.heap.size (.slice none 0 0) [] ∧ Below w.heap.size w (w.alloc (.cells #[.slice none 0 0] 58))) := ⟨⟨Nat.le_refl _, heap_alloc_new _ _, GL.nil⟩, (Below.refl _ _).alloc (Nat.le_refl _) _⟩
  obtain ⟨W, hW⟩ : ∃ W_, W_ = w.alloc (.cells #[.slice none 0 0] 58) := ⟨_, rfl⟩
  obtain ⟨p, hp⟩ : ∃ B_, B_ = w.heap.size := ⟨_, rfl⟩
  have HW : Hid (w.alloc (.cells #[.slice none 0 0] 58) = W ∧ w.heap.size = p) := ⟨hW.symm, hp.symm⟩
  have H1 : Hid (PK w.heap.size W p (.slice none 0 0) [] ∧ Below w.heap.size w W) := by have := H0.out; rw [← hW] at this; rw [hp]; exact this
  clear hW hp H0 hL hn
  go_enter Try.func27, Try.ntmps27
  go_wp2_with fail
  rw [HW.out.1, HW.out.2]
  go_loopw [4] (fun ix wr => ∃ (k : Nat) (tv : Value), ix = .int .i64 (k : Nat) ∧ k ≤ n ∧ Hid (PK w.heap.size wr p tv ((ls.take k).map LI.bu) ∧ Below w.heap.size w wr)) (fun ix _ => n - (intOf ix).toNat)
  case atStart => exact ⟨0, _, rfl, Nat.zero_le _, H1.out⟩
  case round =>
    obtain ⟨k, tv, rfl, hk, HI⟩ := hrel
    clear H1
    by_cases hkn : k < n
    · have p1 : decide ((k : Int) < (n : Int)) = true := decide_eq_true (by omega)
      have p2 : decide (k < n) = true := decide_eq_true hkn
      have k0 : (0 : Int) ≤ (k : Int) := by omega
      have k1 : (k : Int) < (n : Int) := by omega
      have k2 : ((k : Int)).toNat = k := by omega
      have wk : IntKind.i64.wrap ((k : Int) + 1) = (k : Int) + 1 := i64_s _ (by omega) (by omega)
      have HKN : Hid (k < n ∧ n ≤ 8) := ⟨hkn, h8⟩
      obtain ⟨l, hl⟩ : ∃ l, ls[k]? = some l := ⟨_, List.getElem?_eq_getElem (by rw [HL.out.2]; exact hkn)⟩
      obtain ⟨hlw, ab, off, rfl, hra⟩ := HL.out.1.row k l hl
      have HLK : Hid (ls[k]? = some l) := hl
      have HRA : Hid (w.rangeAt ab (off + k * 5) (liA l).toList) := hra
      have HRL : Hid (ab < w.heap.size) := range_lt hra
      obtain ⟨ta, tc, htv⟩ := HI.out.1.t.val (n := k) (by rw [List.length_map, List.length_take, HL.out.2]; omega)
      subst htv
      clear hl hlw hra hkn hk
      go_upto_region 5 with fail
      refine MixH.start (fun A => A.rangeAt ab (off + k * 5) (liA l).toList) (by kernel_rfl) ?_
      obtain ⟨wA, hwA⟩ : ∃ W_, W_ = wr.drew := ⟨_, rfl⟩
      have bdr : Below wr.heap.size wr wA := by rw [hwA]; exact (Below.refl _ _).drew
      have HA : Hid (PK w.heap.size wA p (.slice ta k tc) ((ls.take k).map LI.bu) ∧ Below w.heap.size w wA) := ⟨HI.out.1.below bdr, bthen HI.out.2 bdr⟩
      have hS : wA.rangeAt ab (off + k * 5) (liA l).toList := range_bel (range_bel HRA.out HI.out.2) bdr
      rw [← hwA]
      clear hwA bdr
      refine MixH.takes [true, true, true, true, false, true, true, true, true] 7 (by kernel_rfl) (by kernel_rfl) (by decide) (by kernel_rfl) hS (fun K hK => ?_)
      simp only [Mix.pick]
      repeat (go_big_quiet_step (fail))
      refine wpQuiet_nil (hK _ ?_)
      clear hK K
      refine MixH.take 6 9 _ (.int .i64 l.bu) rfl (by kernel_rfl) (by kernel_rfl) (by kernel_rfl) (by kernel_rfl) (yields_int (.tmp 21) rfl ⟨ab, off + k * 5 + 4, none⟩ (.int .i64 l.bu) rfl rfl (fun A hA => hA 4 _ rfl)) hS (fun a' ha => ?_)
      simp only [Act.put, List.setIfInBounds_toArray, List.set_cons_succ, List.set_cons_zero] at ha
      subst ha
      refine MixH.pair [false, false, false, false, true] [false, false, false, false, false, false, false, false, false, false, true] 5 4 10 _ _ rfl rfl rfl rfl (by kernel_rfl) (by kernel_rfl) (fun K hK => ?_) (fun K hK => ?_)
      · simp only [Mix.pick]
        have cP : wA.cell? ⟨p, 0, none⟩ = some (.slice ta k tc) := HA.out.1.at'.cell
        go_wp2_with fail
        clear cP
        refine ⟨rfl, hK _ _ hS ?_⟩
        clear hK K
        refine MixH.one [false, false, false, false, false, false, false, false, false, false, true] 4 10 _ rfl rfl (by kernel_rfl) (by kernel_rfl) (fun K hK => ?_)
        simp only [Mix.pick]
        refine wpList_bs1z (.tmp 22) rfl l.bu rfl rfl ?_
        intro Bi Wi hBi hRi bi
        have HI2 : Hid (PK w.heap.size Wi p (.slice ta k tc) ((ls.take k).map LI.bu) ∧ Wi.rangeAt Bi 0 (inL l.bu) ∧ Below w.heap.size w Wi ∧ Bi < Wi.heap.size) := ⟨HA.out.1.below bi, hRi, bthen HA.out.2 bi, by have := hBi.out; omega⟩
        replace hS : Wi.rangeAt ab (off + k * 5) (liA l).toList := range_bel hS bi
        clear hBi hRi bi
        go_wp2_with fail
        refine ⟨rfl, hK _ _ hS ?_⟩
        clear hK K
        refine MixH.one [false, false, false, false, false, false, false, false, false, false, false, true] 3 11 _ rfl rfl (by kernel_rfl) (by kernel_rfl) (fun K hK => ?_)
        simp only [Mix.pick]
        refine wpList_app1G inL_len inL_one (by decide) rfl (.tmp 17) (.tmp 23) 23 3 rfl Try.underlying23 info_in w.heap.size (.slice ta k tc) ((ls.take k).map LI.bu) rfl HI2.out.1.t Bi 1 l.bu rfl HI2.out.2.2.2 HI2.out.2.1 (by rw [List.length_map, List.length_take]; have := HKN.out; omega) HI2.out.2.2.1.size ?_
        intro v5 w5 g5 k5 o5
        have kc := Ch.ofGrown k5
        have hP5 : PurAt w5 p (.slice ta k tc) := HI2.out.1.at'.ch kc (fun e => by obtain ⟨_, _, c, hc⟩ := HI2.out.1.t.kind p e; exact tk_ne HI2.out.1.at' hc (by decide))
        have hlk : ((ls.take k).map LI.bu ++ [l.bu]).length = k + 1 := by rw [List.length_append, List.length_map, List.length_take, HL.out.2]; have := HKN.out; simp; omega
        obtain ⟨ta5, tc5, hv5⟩ := g5.val hlk
        subst hv5
        have hab : ¬ (Value.slice ta k tc).ownBlock = some ab := fun e => by
          have h1 := (HI2.out.1.t.kind ab e).1
          have h2 := HRL.out
          omega
        have H5 : Hid (PurAt w5 p (.slice ta k tc) ∧ GL 1 inL 3 w5 w.heap.size (.slice ta5 (k + 1) tc5) ((ls.take k).map LI.bu ++ [l.bu]) ∧ Below w.heap.size w w5) := ⟨hP5, g5, HI2.out.2.2.1.trans (kc.below (fun q e => (HI2.out.1.t.kind q e).1) HI2.out.2.2.1.size)⟩
        replace hS : w5.rangeAt ab (off + k * 5) (liA l).toList := range_ch hS kc hab
        clear g5 k5 o5 kc hP5 hlk hab
        go_wp2_with fail
        refine ⟨rfl, hK _ _ hS ?_⟩
        clear hK K
        refine MixH.takes [false, false, false, false, false, false, false, false, false, false, false, false, true, true] 1 (by kernel_rfl) (by kernel_rfl) (by decide) (by kernel_rfl) hS (fun K hK => ?_)
        simp only [Mix.pick]
        repeat (go_big_quiet_step (fail))
        refine wpQuiet_nil (hK _ ?_)
        clear hK K
        refine MixH.one [false, false, false, false, false, false, false, false, false, false, false, false, false, false, true] 0 14 _ rfl rfl (by kernel_rfl) (by kernel_rfl) (fun K hK => ?_)
        simp only [Mix.pick]
        have cP : w5.cell? ⟨p, 0, none⟩ = some (.slice ta k tc) := H5.out.1.cell
        have zP := H5.out.1.fz 0
        have kk : Ch (fun q => q = p) w5 (w5.setCell ⟨p, 0, none⟩ (.slice ta5 (k + 1) tc5)) := (Ch.refl (fun q => q = p) w5).set ⟨p, 0, none⟩ _ rfl
        have H6 : Hid (PK w.heap.size (w5.setCell ⟨p, 0, none⟩ (.slice ta5 (k + 1) tc5)) p (.slice ta5 (k + 1) tc5) ((ls.take (k + 1)).map LI.bu) ∧ Below w.heap.size w (w5.setCell ⟨p, 0, none⟩ (.slice ta5 (k + 1) tc5))) := by
          have hlo := HA.out.1.lo
          have he : (ls.take k).map LI.bu ++ [l.bu] = (ls.take (k + 1)).map LI.bu := by rw [List.take_add_one, HLK.out]; simp
          refine ⟨⟨hlo, H5.out.1.set _, ?_⟩, H5.out.2.2.trans (kk.below (fun q e => by have e' : q = p := e; omega) H5.out.2.2.size)⟩
          rw [← he]
          exact H5.out.2.1.ch kk (fun q hq e => by have e' : q = p := e; subst e'; obtain ⟨_, _, c, hc⟩ := H5.out.2.1.kind q hq; exact tk_ne H5.out.1 hc (by decide))
        have hap : ¬ ab = p := fun e => by have h1 := HA.out.1.lo; have h2 := HRL.out; omega
        replace hS : (w5.setCell ⟨p, 0, none⟩ (.slice ta5 (k + 1) tc5)).rangeAt ab (off + k * 5) (liA l).toList := range_ch hS kk hap
        clear kk hap
        go_wp2_with fail
        refine ⟨rfl, hK _ _ hS ?_⟩
        clear hK K
        refine MixH.done (by kernel_rfl) ?_
        clear hS
        go_wp2_with fail
        go_roundw
        case rel => exact ⟨k + 1, _, by first | rfl | go_num, by have := HKN.out; omega, H6.out⟩
        case measure => have := HKN.out; simp [intOf]; omega
      · simp only [Mix.pick]
        refine wpList_bs1z (.tmp 22) rfl l.bu rfl rfl ?_
        intro Bi Wi hBi hRi bi
        have HI2 : Hid (PK w.heap.size Wi p (.slice ta k tc) ((ls.take k).map LI.bu) ∧ Wi.rangeAt Bi 0 (inL l.bu) ∧ Below w.heap.size w Wi ∧ Bi < Wi.heap.size) := ⟨HA.out.1.below bi, hRi, bthen HA.out.2 bi, by have := hBi.out; omega⟩
        replace hS : Wi.rangeAt ab (off + k * 5) (liA l).toList := range_bel hS bi
        clear hBi hRi bi
        go_wp2_with fail
        refine ⟨rfl, hK _ _ hS ?_⟩
        clear hK K
        refine MixH.one [false, false, false, false, true] 4 4 _ rfl rfl (by kernel_rfl) (by kernel_rfl) (fun K hK => ?_)
        simp only [Mix.pick]
        have cP : Wi.cell? ⟨p, 0, none⟩ = some (.slice ta k tc) := HI2.out.1.at'.cell
        go_wp2_with fail
        clear cP
        refine ⟨rfl, hK _ _ hS ?_⟩
        clear hK K
        refine MixH.one [false, false, false, false, false, false, false, false, false, false, false, true] 3 11 _ rfl rfl (by kernel_rfl) (by kernel_rfl) (fun K hK => ?_)
        simp only [Mix.pick]
        refine wpList_app1G inL_len inL_one (by decide) rfl (.tmp 17) (.tmp 23) 23 3 rfl Try.underlying23 info_in w.heap.size (.slice ta k tc) ((ls.take k).map LI.bu) rfl HI2.out.1.t Bi 1 l.bu rfl HI2.out.2.2.2 HI2.out.2.1 (by rw [List.length_map, List.length_take]; have := HKN.out; omega) HI2.out.2.2.1.size ?_
        intro v5 w5 g5 k5 o5
        have kc := Ch.ofGrown k5
        have hP5 : PurAt w5 p (.slice ta k tc) := HI2.out.1.at'.ch kc (fun e => by obtain ⟨_, _, c, hc⟩ := HI2.out.1.t.kind p e; exact tk_ne HI2.out.1.at' hc (by decide))
        have hlk : ((ls.take k).map LI.bu ++ [l.bu]).length = k + 1 := by rw [List.length_append, List.length_map, List.length_take, HL.out.2]; have := HKN.out; simp; omega
        obtain ⟨ta5, tc5, hv5⟩ := g5.val hlk
        subst hv5
        have hab : ¬ (Value.slice ta k tc).ownBlock = some ab := fun e => by
          have h1 := (HI2.out.1.t.kind ab e).1
          have h2 := HRL.out
          omega
        have H5 : Hid (PurAt w5 p (.slice ta k tc) ∧ GL 1 inL 3 w5 w.heap.size (.slice ta5 (k + 1) tc5) ((ls.take k).map LI.bu ++ [l.bu]) ∧ Below w.heap.size w w5) := ⟨hP5, g5, HI2.out.2.2.1.trans (kc.below (fun q e => (HI2.out.1.t.kind q e).1) HI2.out.2.2.1.size)⟩
        replace hS : w5.rangeAt ab (off + k * 5) (liA l).toList := range_ch hS kc hab
        clear g5 k5 o5 kc hP5 hlk hab
        go_wp2_with fail
        refine ⟨rfl, hK _ _ hS ?_⟩
        clear hK K
        refine MixH.takes [false, false, false, false, false, false, false, false, false, false, false, false, true, true] 1 (by kernel_rfl) (by kernel_rfl) (by decide) (by kernel_rfl) hS (fun K hK => ?_)
        simp only [Mix.pick]
        repeat (go_big_quiet_step (fail))
        refine wpQuiet_nil (hK _ ?_)
        clear hK K
        refine MixH.one [false, false, false, false, false, false, false, false, false, false, false, false, false, false, true] 0 14 _ rfl rfl (by kernel_rfl) (by kernel_rfl) (fun K hK => ?_)
        simp only [Mix.pick]
        have cP : w5.cell? ⟨p, 0, none⟩ = some (.slice ta k tc) := H5.out.1.cell
        have zP := H5.out.1.fz 0
        have kk : Ch (fun q => q = p) w5 (w5.setCell ⟨p, 0, none⟩ (.slice ta5 (k + 1) tc5)) := (Ch.refl (fun q => q = p) w5).set ⟨p, 0, none⟩ _ rfl
        have H6 : Hid (PK w.heap.size (w5.setCell ⟨p, 0, none⟩ (.slice ta5 (k + 1) tc5)) p (.slice ta5 (k + 1) tc5) ((ls.take (k + 1)).map LI.bu) ∧ Below w.heap.size w (w5.setCell ⟨p, 0, none⟩ (.slice ta5 (k + 1) tc5))) := by
          have hlo := HA.out.1.lo
          have he : (ls.take k).map LI.bu ++ [l.bu] = (ls.take (k + 1)).map LI.bu := by rw [List.take_add_one, HLK.out]; simp
          refine ⟨⟨hlo, H5.out.1.set _, ?_⟩, H5.out.2.2.trans (kk.below (fun q e => by have e' : q = p := e; omega) H5.out.2.2.size)⟩
          rw [← he]
          exact H5.out.2.1.ch kk (fun q hq e => by have e' : q = p := e; subst e'; obtain ⟨_, _, c, hc⟩ := H5.out.2.1.kind q hq; exact tk_ne H5.out.1 hc (by decide))
        have hap : ¬ ab = p := fun e => by have h1 := HA.out.1.lo; have h2 := HRL.out; omega
        replace hS : (w5.setCell ⟨p, 0, none⟩ (.slice ta5 (k + 1) tc5)).rangeAt ab (off + k * 5) (liA l).toList := range_ch hS kk hap
        clear kk hap
        go_wp2_with fail
        refine ⟨rfl, hK _ _ hS ?_⟩
        clear hK K
        refine MixH.done (by kernel_rfl) ?_
        clear hS
        go_wp2_with fail
        go_roundw
        case rel => exact ⟨k + 1, _, by first | rfl | go_num, by have := HKN.out; omega, H6.out⟩
        case measure => have := HKN.out; simp [intOf]; omega
    · have p1 : decide ((k : Int) < (n : Int)) = false := decide_eq_false (by omega)
      have p2 : decide (k < n) = false := decide_eq_false hkn
      have HKN : Hid (k = n) := by show k = n; omega
      clear hkn hk
      go_wp2_with fail
      go_ret
      refine ⟨p, tv, rfl, ?_, HI.out.2⟩
      have h1 := HI.out.1
      rw [HKN.out, ← HL.out.2, List.take_length] at h1
      exact h1
end Go.Proofs.Ytclkcpdghpaboaa
