/-
  MixH Ref3l Ref3m Ref3n Ref3o Ref3p Ref3q Ref3r, one behind the other.
-/
import Derived.Test.YthknkfggpdhdbaaK3a
import Derived.OrdersHeld
import Derived.Test.YthknkfggpdhdbaaK3d
namespace Go.Proofs.Ythknkfggpdhdbaa.MixH
open Go.Proofs.Ythknkfggpdhdbaa.Mix

theorem start {P : Program} {l : List Oper} {Q : Exit → Act → World → Prop} {a : Act} {w : World} {id : Nat} (S : World → Prop) (hm : P.follows .mixedOrders = true)
    (h : wpAnyH P .any l.toArray (only Q) S l.length (Array.replicate l.length false) a w.drew) : (Code.region id l.toArray true).wp P Q a w :=
  Mix.start hm (wpAny_of_held _ _ _ _ h)
/-- one that yields in every world that meets S is taken -/
theorem take {P : Program} {l : List Oper} {Q : Exit → Act → World → Prop} {S : World → Prop} {F : Nat} {listed : Array Bool} {a : Act} {w : World} (fuel i : Nat) (o : Oper) (v : Value) (hi : l[i]? = some o) (hs : Region.noSelect l.toArray = true) (hf : Region.free .any l.toArray listed i = true) (hr : (Region.ready .any l.toArray listed).contains i = true) (hF : F = fuel + 1)
    (hy : YieldsIf P l.toArray S o v a) (hS : S w) (h : ∀ a', a' = a.put o.dst v → wpAnyH P .any l.toArray (only Q) S fuel (listed.setIfInBounds i true) a' w) : wpAnyH P .any l.toArray (only Q) S F listed a w := by
  subst hF
  exact wpAnyH_take (by simpa using hi) hs hf hr (fun c a w h => only_panic h) hy hS (h _ rfl)
/-- a batch of quiet operations -/
theorem batch {P : Program} {ops : Array Oper} {Q : Exit → Act → World → Prop} {S : World → Prop} (hs : Region.noSelect ops = true) : ∀ (is : List Nat) (os : List Oper) (fuel : Nat) (listed : Array Bool) (a : Act) (w : World), S w →
    is.map (fun i => ops[i]?) = os.map some → batchB ops is listed = true → wpQuiet P ops (fun _ => True) (fun a' => wpAnyH P .any ops (only Q) S fuel (Mix.mark is listed) a' w) os a → wpAnyH P .any ops (only Q) S (fuel + is.length) listed a w
  | [], [], fuel, listed, a, w, _, _, _, h => h
  | [], o :: os, _, _, _, _, _, he, _, _ => by simp at he
  | i :: is, [], _, _, _, _, _, he, _, _ => by simp at he
  | i :: is, o :: os, fuel, listed, a, w, hS, he, hb, h => by
    simp only [List.map_cons, List.cons.injEq] at he
    obtain ⟨hi, he⟩ := he
    simp only [batchB, hi, Option.map_some, Option.getD_some, Bool.and_eq_true] at hb
    obtain ⟨⟨⟨hk, hf⟩, hr⟩, hb⟩ := hb
    simp only [wpQuiet] at h
    by_cases hw : Region.wanted o (yielded ops a.tmps) = true
    · rw [if_pos hw] at h
      obtain ⟨v, hv, hn⟩ := h
      exact wpAnyH_take hi hs hf hr (fun c a w h => only_panic h) (yields_of hk hw hv).yieldsIf hS (batch hs is os fuel _ _ w hS he hb hn)
    · rw [if_neg hw] at h
      exact wpAnyH_take hi hs hf hr (fun c a w h => only_panic h) (.inr ⟨by simpa using hw, rfl⟩) hS (batch hs is os fuel _ _ w hS he hb h)
theorem takes {P : Program} {l : List Oper} {Q : Exit → Act → World → Prop} {S : World → Prop} {F : Nat} {listed : Array Bool} {a : Act} {w : World} (fs : List Bool) (fuel : Nat) (hs : Region.noSelect l.toArray = true) (hF : F = fuel + (idx fs 0).length) (hl : fs.length ≤ l.length) (hb : batchB l.toArray (idx fs 0) listed = true) (hS : S w)
    (h : ∀ K : Act → Prop, (∀ a', wpAnyH P .any l.toArray (only Q) S fuel (Mix.mark (idx fs 0) listed) a' w → K a') → wpQuiet P l.toArray (fun _ => True) K (pick fs l) a) : wpAnyH P .any l.toArray (only Q) S F listed a w := by
  rw [hF]
  exact batch hs (idx fs 0) (pick fs l) fuel listed a w hS (idx_pick _ fs l 0 (by simp) hl) hb (h _ (fun _ h => h))
/-- one that alone may come up -/
theorem one {P : Program} {l : List Oper} {Q : Exit → Act → World → Prop} {S : World → Prop} {F : Nat} {listed : Array Bool} {a : Act} {w : World} (fs : List Bool) (fuel : Nat) (i : Nat) (o : Oper) (ho : pick fs l = [o]) (hi : l[i]? = some o) (hr : Region.ready .any l.toArray listed = [i]) (hF : F = fuel + 1)
    (h : ∀ K : Act → World → Prop, (∀ a' w', S w' → wpAnyH P .any l.toArray (only Q) S fuel (listed.setIfInBounds i true) a' w' → K a' w') → wpList P l.toArray (only fun _ => K) (pick fs l) a w) : wpAnyH P .any l.toArray (only Q) S F listed a w := by
  subst hF
  have h1 := h _ (fun _ _ hs h => (⟨hs, h⟩ : _ ∧ _))
  rw [ho] at h1
  refine wpAnyH_all hr (by simp) fun j hj => ?_
  simp only [List.mem_singleton] at hj
  subst hj
  have hi' : l.toArray[j]? = some o := by simpa using hi
  unfold wpOp
  simp only [hi']
  unfold wpList at h1
  split
  · rename_i hw
    rw [if_pos hw] at h1
    rcases h1 with h1 | ⟨_, h1⟩
    · exact .inl (wp_only (fun a w h => h.2) h1)
    · exact absurd h1 (no_out _)
  · rename_i hw
    rw [if_neg hw] at h1
    exact h1.2
theorem done {P : Program} {l : List Oper} {Q : Exit → Act → World → Prop} {S : World → Prop} {listed : Array Bool} {a : Act} {w : World} {fuel : Nat} (hr : Region.ready .any l.toArray listed = []) (h : Q .normal a w) : wpAnyH P .any l.toArray (only Q) S fuel listed a w :=
  wpAnyH_done hr ⟨rfl, h⟩ fuel
end Go.Proofs.Ythknkfggpdhdbaa.MixH
namespace Go.Proofs.Ythknkfggpdhdbaa
open Go.RowKit

theorem yields_rp {ops : Array Oper} {o : Oper} {a : Act} (x : Operand) (ho : o.op = .load 26 x) (O : Nat) (r : RV) (hx : a.eval x = .pointer (some ⟨O, 0, none⟩)) (hw : Region.wanted o (yielded ops a.tmps) = true) : YieldsIf Try.prog ops (fun w => RpAt w O r) o (.agg r.cells) a := by
  refine .inl ⟨hw, fun w hb => ?_⟩
  unfold execOp
  simp only [ho, hx, Instr.loadAt, Instr.sureAddr, Sem.run_bind, Sem.run_pure, Result.andThen_ok, run_loadVar_row w O _ 26 r.cells _ _ hb Try.underlying26 rfl Try.sizePortR]
theorem cnt_q (w : World) (r : RV) (h : RV.ok w r) (pc : Nat) : Calls Try.prog 61 #[.agg r.cells, .int .i64 pc] w fun e w' => e = .returned (.int .i64 (rcnt r.L pc r.L.length : Nat)) ∧ Below w.heap.size w w' := count_any w r.rx r.tx r.size r.al r.cl r.now r.L h.bufs h.len pc
def rstat (L : List RB) : Array Value := #[.int .i64 (rcnt L 1 L.length : Nat), .int .i64 (rcnt L 2 L.length : Nat), .int .i64 (rcnt L 3 L.length : Nat), .int .i64 (rcnt L 4 L.length : Nat), .int .i64 (rcnt L 5 L.length : Nat)]
theorem wpList_store_st {ops : Array Oper} {rest : List Oper} {o : Oper} {a : Act} {w : World} {Q : Exit → Act → World → Prop} (x y : Operand) (ho : o.op = .store 80 x y) (hd : o.dst = none) (O : Nat) (C C' : Array Value) (hC : C.size = 5) (hC' : C'.size = 5) (h1 : (C'.all fun x => x.oneCell') = true) (hx : a.eval x = .pointer (some ⟨O, 0, none⟩)) (hy : a.eval y = .agg C') (hb : w.heap[O]? = some (.cells C 80 (0, 0)))
    (hw : Region.wanted o (yielded ops a.tmps) = true) (h : ∀ w', w'.heap[O]? = some (.cells C' 80 (0, 0)) → Ch (fun q => q = O) w w' → wpList Try.prog ops Q rest a w') : wpList Try.prog ops Q (o :: rest) a w := by
  refine wpList_step fun K hK => ?_
  rw [if_pos hw]
  refine wp_store_row 80 x y ho O C' hx hy _ C hb (by rw [hC']; exact Try.sizeStat) (by rw [hC, hC']) h1 (hK _ _ ?_)
  rw [hd]
  refine h _ (setRow_heap w O C C' _ _ hb) ⟨rfl, rfl, rfl, ?_, ?_⟩
  · simp [World.setRow]
  · intro k hk hne
    simp only [World.setRow]
    rw [Array.getElem?_modify, if_neg (fun e => hne e.symm)]
set_option maxRecDepth 100000 in
set_option maxHeartbeats 1600000 in
theorem statR_any (w : World) (r : RV) (h : RV.ok w r) :
    Calls Try.prog 38 #[.agg r.cells] w fun e w' => e = .returned (.agg (rstat r.L)) ∧ Below w.heap.size w w' := by
  obtain ⟨W, hW⟩ : ∃ W, W = (w.alloc (.cells r.cells 26)).alloc (.cells #[.int .i64 0, .int .i64 0, .int .i64 0, .int .i64 0, .int .i64 0] 80) := ⟨_, rfl⟩
  obtain ⟨O, hO⟩ : ∃ O, O = w.heap.size := ⟨_, rfl⟩
  have bel : Below w.heap.size w W := by rw [hW]; exact ((Below.refl _ _).alloc (Nat.le_refl _) _).alloc (by simp) _
  have box : RpAt W O r := by
    have := rpAt_new w r
    unfold RpAt at this ⊢
    rw [hW, hO, heap_alloc_old _ _ (by simp)]
    exact this
  have res : W.heap[O + 1]? = some (.cells #[.int .i64 0, .int .i64 0, .int .i64 0, .int .i64 0, .int .i64 0] 80 (0, 0)) := by
    rw [hW, hO]
    have := heap_alloc_new (w.alloc (.cells r.cells 26)) (.cells #[.int .i64 0, .int .i64 0, .int .i64 0, .int .i64 0, .int .i64 0] 80)
    rwa [World.size_alloc] at this
  obtain ⟨C, hC⟩ : ∃ C, C = r.cells := ⟨_, rfl⟩
  have HW : Hid ((w.alloc (.cells C 26)).alloc (.cells #[.int .i64 0, .int .i64 0, .int .i64 0, .int .i64 0, .int .i64 0] 80) = W) := by rw [hC]; exact hW.symm
  have HO : Hid (w.heap.size = O) := hO.symm
  rw [show #[Value.agg r.cells] = #[Value.agg C] from by rw [hC]]
  clear hW hC hO
  go_enter Try.func38, Try.ntmps38
  go_upto_region 1 with fail
  rw [HW.out, HO.out]
  refine MixH.start (fun w' => RpAt w' O r) (by kernel_rfl) ?_
  obtain ⟨wA, hwA⟩ : ∃ wA, wA = W.drew := ⟨_, rfl⟩
  have hbox : RpAt wA O r := by rw [hwA]; exact box
  have res0 : wA.heap[O + 1]? = some (.cells #[.int .i64 0, .int .i64 0, .int .i64 0, .int .i64 0, .int .i64 0] 80 (0, 0)) := by rw [hwA]; exact res
  have bel0 : Below w.heap.size w wA := by rw [hwA]; exact bel.drew
  have ok0 : RV.ok wA r := h.old bel0
  have reslt : O + 1 < wA.heap.size := (Array.getElem?_eq_some_iff.1 res0).1
  rw [← hwA]
  clear hwA box res bel HW
  refine MixH.take 11 0 _ (.agg r.cells) rfl (by kernel_rfl) (by kernel_rfl) (by kernel_rfl) (by kernel_rfl) (yields_rp (.tmp 1) rfl O r rfl rfl) hbox (fun a' ha => ?_)
  simp only [Act.put, List.setIfInBounds_toArray, List.set_cons_succ, List.set_cons_zero] at ha
  subst ha
  refine MixH.take 10 2 _ (.agg r.cells) rfl (by kernel_rfl) (by kernel_rfl) (by kernel_rfl) (by kernel_rfl) (yields_rp (.tmp 1) rfl O r rfl rfl) hbox (fun a' ha => ?_)
  simp only [Act.put, List.setIfInBounds_toArray, List.set_cons_succ, List.set_cons_zero] at ha
  subst ha
  refine MixH.take 9 4 _ (.agg r.cells) rfl (by kernel_rfl) (by kernel_rfl) (by kernel_rfl) (by kernel_rfl) (yields_rp (.tmp 1) rfl O r rfl rfl) hbox (fun a' ha => ?_)
  simp only [Act.put, List.setIfInBounds_toArray, List.set_cons_succ, List.set_cons_zero] at ha
  subst ha
  refine MixH.take 8 6 _ (.agg r.cells) rfl (by kernel_rfl) (by kernel_rfl) (by kernel_rfl) (by kernel_rfl) (yields_rp (.tmp 1) rfl O r rfl rfl) hbox (fun a' ha => ?_)
  simp only [Act.put, List.setIfInBounds_toArray, List.set_cons_succ, List.set_cons_zero] at ha
  subst ha
  refine MixH.take 7 8 _ (.agg r.cells) rfl (by kernel_rfl) (by kernel_rfl) (by kernel_rfl) (by kernel_rfl) (yields_rp (.tmp 1) rfl O r rfl rfl) hbox (fun a' ha => ?_)
  simp only [Act.put, List.setIfInBounds_toArray, List.set_cons_succ, List.set_cons_zero] at ha
  subst ha
  refine MixH.one [false, true] 6 1 _ rfl rfl (by kernel_rfl) (by kernel_rfl) (fun K hK => ?_)
  simp only [Mix.pick]
  have Q1 : Hid _ := cnt_q wA r ok0 1
  go_wp2_with fail
  refine Calls.mono Q1.out ?_
  rintro e w1 ⟨rfl, hb1⟩
  have ok1 := ok0.old hb1
  have box1 := hbox.below hb1
  have bel1 := bel0.trans (hb1.mono bel0.size)
  have res1 := (hb1.block (O + 1) reslt).trans res0
  have reslt1 : O + 1 < w1.heap.size := Nat.lt_of_lt_of_le reslt hb1.size
  have BX1 : Hid _ := box1
  clear hb1 hbox Q1
  go_wp2
  refine ⟨rfl, hK _ _ BX1.out ?_⟩
  clear hK K
  refine MixH.one [false, false, false, true] 5 3 _ rfl rfl (by kernel_rfl) (by kernel_rfl) (fun K hK => ?_)
  simp only [Mix.pick]
  have Q2 : Hid _ := cnt_q w1 r ok1 2
  go_wp2_with fail
  refine Calls.mono Q2.out ?_
  rintro e w2 ⟨rfl, hb2⟩
  have ok2 := ok1.old hb2
  have box2 := box1.below hb2
  have bel2 := bel1.trans (hb2.mono bel1.size)
  have res2 := (hb2.block (O + 1) reslt1).trans res1
  have reslt2 : O + 1 < w2.heap.size := Nat.lt_of_lt_of_le reslt1 hb2.size
  have BX2 : Hid _ := box2
  clear hb2  Q2
  go_wp2
  refine ⟨rfl, hK _ _ BX2.out ?_⟩
  clear hK K
  refine MixH.one [false, false, false, false, false, true] 4 5 _ rfl rfl (by kernel_rfl) (by kernel_rfl) (fun K hK => ?_)
  simp only [Mix.pick]
  have Q3 : Hid _ := cnt_q w2 r ok2 3
  go_wp2_with fail
  refine Calls.mono Q3.out ?_
  rintro e w3 ⟨rfl, hb3⟩
  have ok3 := ok2.old hb3
  have box3 := box2.below hb3
  have bel3 := bel2.trans (hb3.mono bel2.size)
  have res3 := (hb3.block (O + 1) reslt2).trans res2
  have reslt3 : O + 1 < w3.heap.size := Nat.lt_of_lt_of_le reslt2 hb3.size
  have BX3 : Hid _ := box3
  clear hb3  Q3
  go_wp2
  refine ⟨rfl, hK _ _ BX3.out ?_⟩
  clear hK K
  refine MixH.one [false, false, false, false, false, false, false, true] 3 7 _ rfl rfl (by kernel_rfl) (by kernel_rfl) (fun K hK => ?_)
  simp only [Mix.pick]
  have Q4 : Hid _ := cnt_q w3 r ok3 4
  go_wp2_with fail
  refine Calls.mono Q4.out ?_
  rintro e w4 ⟨rfl, hb4⟩
  have ok4 := ok3.old hb4
  have box4 := box3.below hb4
  have bel4 := bel3.trans (hb4.mono bel3.size)
  have res4 := (hb4.block (O + 1) reslt3).trans res3
  have reslt4 : O + 1 < w4.heap.size := Nat.lt_of_lt_of_le reslt3 hb4.size
  have BX4 : Hid _ := box4
  clear hb4  Q4
  go_wp2
  refine ⟨rfl, hK _ _ BX4.out ?_⟩
  clear hK K
  refine MixH.one [false, false, false, false, false, false, false, false, false, true] 2 9 _ rfl rfl (by kernel_rfl) (by kernel_rfl) (fun K hK => ?_)
  simp only [Mix.pick]
  have Q5 : Hid _ := cnt_q w4 r ok4 5
  go_wp2_with fail
  refine Calls.mono Q5.out ?_
  rintro e w5 ⟨rfl, hb5⟩
  have ok5 := ok4.old hb5
  have box5 := box4.below hb5
  have bel5 := bel4.trans (hb5.mono bel4.size)
  have res5 := (hb5.block (O + 1) reslt4).trans res4
  have reslt5 : O + 1 < w5.heap.size := Nat.lt_of_lt_of_le reslt4 hb5.size
  have BX5 : Hid _ := box5
  clear hb5  Q5
  go_wp2
  refine ⟨rfl, hK _ _ BX5.out ?_⟩
  clear hK K
  refine MixH.one [false, false, false, false, false, false, false, false, false, false, true] 1 10 _ rfl rfl (by kernel_rfl) (by kernel_rfl) (fun K hK => ?_)
  simp only [Mix.pick]
  clear box1 box2 box3 box4 res0 res1 res2 res3 res4 ok0 ok1 ok2 ok3 ok4 ok5 bel0 bel1 bel2 bel3 bel4 box5
  go_wp2
  refine ⟨rfl, hK _ _ BX5.out ?_⟩
  clear hK K
  refine MixH.one [false, false, false, false, false, false, false, false, false, false, false, true] 0 11 _ rfl rfl (by kernel_rfl) (by kernel_rfl) (fun K hK => ?_)
  simp only [Mix.pick]
  refine wpList_store_st (.tmp 2) (.tmp 13) rfl rfl (O + 1) _ (rstat r.L) rfl rfl (by simp [rstat, Value.oneCell']) rfl rfl res5 rfl ?_
  intro w6 hR6 k6
  have hbox6 : RpAt w6 O r := RpAt.ch BX5.out k6 (show ¬ O = O + 1 by omega)
  have hfin : Below w.heap.size w w6 := bel5.trans (k6.below (fun q e => by have := HO.out; omega) bel5.size)
  have HF : Hid _ := hfin
  have HB6 : Hid _ := hbox6
  have HR6 : Hid _ := hR6
  clear k6 res5 hfin hbox6 hR6 bel5
  go_wp2
  refine ⟨rfl, hK _ _ HB6.out ?_⟩
  clear hK K
  refine MixH.done (by kernel_rfl) ?_
  go_wp2
  (try simp only [Exit.inBlock, Exit.then])
  refine bodyPost_ret (v := .agg (rstat r.L)) ?_ rfl ?_
  · exact results_cell_row rfl _ _ (O + 1) 80 _ _ _ rfl HR6.out Try.underlying80 rfl Try.sizeStat
  exact ⟨rfl, HF.out⟩
end Go.Proofs.Ythknkfggpdhdbaa
namespace Go.Proofs.Ythknkfggpdhdbaa
open Go.RowKit

theorem rcnt_out (L : List RB) (i : Nat) (y : RB) (pc : Nat) : ∀ K, K ≤ i → rcnt (L.set i y) pc K = rcnt L pc K
  | 0, _ => rfl
  | K + 1, h => by
    have e : (L.set i y)[K]? = L[K]? := by rw [List.getElem?_set, if_neg (by omega)]
    rw [rcnt, rcnt, rcnt_out L i y pc K (by omega), e]
theorem rcnt_leave (L : List RB) (i : Nat) (y : RB) (pc : Nat) (h1 : (L[i]?.map RB.pl) = some pc) (hy : y.pl ≠ pc) : ∀ K, i < K → rcnt (L.set i y) pc K + 1 = rcnt L pc K
  | 0, h => by omega
  | K + 1, h => by
    have hi : i < L.length := by
      by_cases hl : i < L.length
      · exact hl
      · rw [List.getElem?_eq_none (by omega)] at h1; cases h1
    rw [rcnt, rcnt]
    by_cases e : i = K
    · subst e
      rw [rcnt_out L i y pc i (Nat.le_refl _), if_pos h1, List.getElem?_set, if_pos rfl, if_pos hi, Option.map_some, if_neg (fun h => hy (Option.some.inj h))]
    · have ih := rcnt_leave L i y pc h1 hy K (by omega)
      have e2 : (L.set i y)[K]? = L[K]? := by rw [List.getElem?_set, if_neg e]
      rw [e2]
      omega
theorem bst_pl (L : List RB) (pc : Nat) : ∀ K, 0 ≤ bst L pc K → (L[(bst L pc K).toNat]?.map RB.pl) = some pc
  | 0, h => by simp [bst] at h
  | K + 1, h => by
    rw [bst] at h ⊢
    split
    · rename_i hc
      rw [Int.toNat_natCast]; exact hc.1
    · rename_i hc
      rw [if_neg hc] at h
      exact bst_pl L pc K h
/-- a buffer is at another place from now on -/
def mvL (L : List RB) (i pc now : Nat) : List RB := L.set i (match L[i]? with | some x => { x with pl := pc, since := now } | none => ⟨pc, now, 0, none, 0, []⟩)
theorem mv_L (r : RV) (i pc g cl : Nat) : (r.mv i pc g cl).L = mvL r.L i pc r.now := rfl
/-- Refill stops -/
def rfStop (rx : Nat) (L : List RB) : Prop := bst L 1 L.length < 0 ∨ rx ≤ rcnt L 2 L.length + rcnt L 3 L.length
instance (rx : Nat) (L : List RB) : Decidable (rfStop rx L) := by unfold rfStop; infer_instance
/-- so many are posted, and the buffers behind it -/
def rfRun (rx : Nat) : Nat → List RB → Nat → Nat × List RB
  | 0, L, _ => (0, L)
  | f + 1, L, now => if rfStop rx L then (0, L) else ((rfRun rx f (mvL L (bst L 1 L.length).toNat 2 now) (now + 1)).1 + 1, (rfRun rx f (mvL L (bst L 1 L.length).toNat 2 now) (now + 1)).2)
/-- the state of the loop -/
structure Rf (w wr : World) (O : Nat) (r s : RV) (k : Nat) : Prop where
  two : Two w wr O s
  al : ∀ a, s.al = some a → a.block < O ∨ O + 2 ≤ a.block
  all : ∀ a, s.al = some a → a.block < wr.heap.size
  dlt : ∀ q, s.dblk q → q < O
  alr : s.al = r.al ∨ ∀ a, s.al = some a → O ≤ a.block
  dr : ∀ q, s.dblk q → r.dblk q
  now : s.now = r.now + k
  rx : s.rx = r.rx
  tx : s.tx = r.tx
  size : s.size = r.size
  len : s.L.length = r.L.length
  cnt : k + rcnt s.L 1 s.L.length = rcnt r.L 1 r.L.length
  run : ∀ f, (rfRun r.rx (k + f) r.L r.now).1 = k + (rfRun r.rx f s.L s.now).1 ∧ (rfRun r.rx (k + f) r.L r.now).2 = (rfRun r.rx f s.L s.now).2
theorem Rf.start {w W : World} {O : Nat} {r : RV} (h : RV.ok w r) (hal : ∀ a, r.al = some a → a.block < w.heap.size) (t : Two w W O r) : Rf w W O r r 0 :=
  ⟨t, fun a ha => .inl (by have := hal a ha; have := t.at'; omega), fun a ha => by have := hal a ha; have := t.bel.size; omega, fun q hq => by have := h.dlt q hq; have := t.at'; omega, .inl rfl, fun _ h => h, rfl, rfl, rfl, rfl, rfl, by omega, fun f => by rw [Nat.zero_add, Nat.zero_add]; exact ⟨rfl, rfl⟩⟩
theorem Rf.old {w W W' : World} {O : Nat} {r s : RV} {k : Nat} (h : Rf w W O r s k) (hb : Below W.heap.size W W') : Rf w W' O r s k :=
  ⟨h.two.old hb, h.al, fun a ha => Nat.lt_of_lt_of_le (h.all a ha) hb.size, h.dlt, h.alr, h.dr, h.now, h.rx, h.tx, h.size, h.len, h.cnt, h.run⟩
theorem Rf.room {w W : World} {O : Nat} {r s : RV} {k : Nat} (h : Rf w W O r s k) (hl : r.L.length ≤ 8192) (hn : r.now + 8192 ≤ 4611686018427387904) (hs : 0 ≤ bst s.L 1 s.L.length) : s.now + 1 ≤ 4611686018427387904 := by
  have h1 := bst_pl s.L 1 s.L.length hs
  have h2 := bst_lt s.L 1 s.L.length
  have h3 := rcnt_leave s.L _ ⟨2, 0, 0, none, 0, []⟩ 1 h1 (by show (2 : Nat) ≠ 1; decide) s.L.length (by omega)
  have h4 := h.cnt
  have h5 := rcnt_le r.L 1 r.L.length
  have h6 := h.now
  omega
theorem Rf.step {w W W5 W6 : World} {O : Nat} {r s : RV} {k g cl i : Nat} (h : Rf w W O r s k) (hi : bst s.L 1 s.L.length = (i : Int)) (hstop : ¬ rfStop s.rx s.L) (ok : RV.ok W5 (s.mv i 2 g cl)) (hg : W.heap.size ≤ g) (hb : Below W.heap.size W W5) (hbox : RpAt W6 O (s.mv i 2 g cl)) (kk : Ch (fun q => q = O) W5 W6) : Rf w W6 O r (s.mv i 2 g cl) (k + 1) := by
  have h2 := bst_lt s.L 1 s.L.length
  have hil : i < s.L.length := by omega
  have hp := bst_pl s.L 1 s.L.length (by omega)
  rw [hi, Int.toNat_natCast] at hp
  have hO := h.two.res.lt
  have hd : ∀ q, (s.mv i 2 g cl).dblk q → q < O := fun q hq => h.dlt q (mv_dblk s i 2 g cl hil q hq)
  have hgl := mv_lt ok hil
  have hlen : (s.mv i 2 g cl).L.length = s.L.length := by rw [mv_L]; unfold mvL; rw [List.length_set]
  refine ⟨⟨hbox, (h.two.res.below hb).ch kk (show ¬ O + 1 = O by omega), (h.two.bel.trans (hb.mono h.two.bel.size)).trans (kk.below (fun q e => by have := h.two.at'; omega) (by have := h.two.bel.size; have := hb.size; omega)), ok.ch kk (fun a ha e => ?_) (fun q hq e => by have := hd q hq; omega), h.two.at'⟩, fun a ha => ?_, fun a ha => ?_, hd, .inr (fun a ha => ?_), fun q hq => h.dr q (mv_dblk s i 2 g cl hil q hq), ?_, h.rx, h.tx, h.size, by rw [hlen]; exact h.len, ?_, fun f => ?_⟩
  · have e2 := Option.some.inj ha
    subst e2
    have e3 : g = O := e
    omega
  · have e2 := Option.some.inj ha
    subst e2
    exact .inr (by show O + 2 ≤ g; omega)
  · have e2 := Option.some.inj ha
    subst e2
    exact Nat.lt_of_lt_of_le hgl kk.size
  · have e2 := Option.some.inj ha
    subst e2
    show O ≤ g
    omega
  · show s.now + 1 = _
    rw [h.now]; omega
  · have := rcnt_leave s.L i { s.L[i] with pl := 2, since := s.now } 1 hp (by show (2 : Nat) ≠ 1; decide) s.L.length hil
    have e : (s.mv i 2 g cl).L = s.L.set i { s.L[i] with pl := 2, since := s.now } := by rw [mv_L]; unfold mvL; rw [List.getElem?_eq_getElem hil]
    rw [hlen, e]
    have := h.cnt
    omega
  · have h1 := h.run (f + 1)
    rw [rfRun, if_neg (by rw [← h.rx]; exact hstop), hi, Int.toNat_natCast] at h1
    rw [show k + 1 + f = k + (f + 1) by omega]
    refine ⟨?_, h1.2⟩
    rw [h1.1, mv_L]
    show _ = k + 1 + (rfRun r.rx f (mvL s.L i 2 s.now) (s.now + 1)).1
    omega
theorem Rf.at_stop {w W : World} {O : Nat} {r s : RV} {k : Nat} (h : Rf w W O r s k) (hs : rfStop s.rx s.L) (n : Nat) (hn : k ≤ n) : (rfRun r.rx n r.L r.now).1 = k ∧ (rfRun r.rx n r.L r.now).2 = s.L := by
  have h1 := h.run (n - k)
  rw [show k + (n - k) = n by omega] at h1
  rw [h.rx] at hs
  cases e : n - k with
  | zero => rw [e] at h1; exact h1
  | succ f =>
    rw [e, rfRun, if_pos hs] at h1
    exact h1
theorem Rf.at_end {w W : World} {O : Nat} {r s : RV} {k : Nat} (h : Rf w W O r s k) : (rfRun r.rx k r.L r.now).1 = k ∧ (rfRun r.rx k r.L r.now).2 = s.L := h.run 0
end Go.Proofs.Ythknkfggpdhdbaa
namespace Go.Proofs.Ythknkfggpdhdbaa
open Go.RowKit

theorem yields_rx {ops : Array Oper} {o : Oper} {a : Act} (x : Operand) (ho : o.op = .load 3 x) (O : Nat) (r : RV) (hx : a.eval x = .pointer (some ⟨O, 0, none⟩)) (hw : Region.wanted o (yielded ops a.tmps) = true) : YieldsIf Try.prog ops (fun w => RpAt w O r) o (.int .i64 r.rx) a := by
  refine .inl ⟨hw, fun w hb => ?_⟩
  have c0 := RpAt.c0 hb
  have hu := Try.underlying3
  unfold execOp
  simp only [ho, hx, Instr.loadAt, Instr.sureAddr, Sem.run_bind, Sem.run_pure, Result.andThen_ok]
  go_simp
set_option maxRecDepth 100000 in
set_option maxHeartbeats 3200000 in
theorem refillR_any (w : World) (r : RV) (h : RV.ok w r) (hal : ∀ a, r.al = some a → a.block < w.heap.size) (hn : r.now + 8192 ≤ 4611686018427387904) (n : Int) :
    Calls Try.prog 69 #[.agg r.cells, .int .i64 n] w fun e w' => ∃ (k : Nat) (s : RV), (k : Int) = (rfRun r.rx n.toNat r.L r.now).1 ∧ s.L = (rfRun r.rx n.toNat r.L r.now).2 ∧ s.now = r.now + k ∧ s.rx = r.rx ∧ s.tx = r.tx ∧ s.size = r.size ∧ e = .returned (.tuple #[.agg s.cells, .int .i64 k]) ∧ RV.ok w' s ∧ (∀ a, s.al = some a → a.block < w'.heap.size) ∧ (s.al = r.al ∨ ∀ a, s.al = some a → w.heap.size ≤ a.block) ∧ (∀ q, s.dblk q → r.dblk q) ∧ Below w.heap.size w w' := by
  have T0 := two_new w r h
  obtain ⟨W, hW⟩ : ∃ W, W = (w.alloc (.cells r.cells 26)).alloc (.cells #[.int .i64 0, .int .i64 0, .int .i64 0, .slice none 0 0, .int .i64 0] 26) := ⟨_, rfl⟩
  obtain ⟨O, hO⟩ : ∃ O, O = w.heap.size := ⟨_, rfl⟩
  rw [← hW, ← hO] at T0
  obtain ⟨C, hC⟩ : ∃ C, C = r.cells := ⟨_, rfl⟩
  have HW : Hid ((w.alloc (.cells C 26)).alloc (.cells #[.int .i64 0, .int .i64 0, .int .i64 0, .slice none 0 0, .int .i64 0] 26) = W) := by rw [hC]; exact hW.symm
  have HO : Hid (w.heap.size = O) := hO.symm
  have HST : Hid _ := Rf.start h hal T0
  have HL : Hid (r.L.length ≤ 8192) := h.len
  have HNW : Hid _ := hn
  have hend : ∀ (v w8 : World) (s : RV) (k : Nat), Rf w v O r s k → (rfRun r.rx n.toNat r.L r.now).1 = k → (rfRun r.rx n.toNat r.L r.now).2 = s.L → Ch (fun q => q = O + 1) v w8 → ∃ (k' : Nat) (s' : RV), (k' : Int) = (rfRun r.rx n.toNat r.L r.now).1 ∧ s'.L = (rfRun r.rx n.toNat r.L r.now).2 ∧ s'.now = r.now + k' ∧ s'.rx = r.rx ∧ s'.tx = r.tx ∧ s'.size = r.size ∧ Ending.returned (.tuple #[.agg s.cells, .int .i64 k]) = .returned (.tuple #[.agg s'.cells, .int .i64 k']) ∧ RV.ok w8 s' ∧ (∀ a, s'.al = some a → a.block < w8.heap.size) ∧ (s'.al = r.al ∨ ∀ a, s'.al = some a → w.heap.size ≤ a.block) ∧ (∀ q, s'.dblk q → r.dblk q) ∧ Below w.heap.size w w8 := fun v w8 s k hr e1 e2 k8 =>
    ⟨k, s, by rw [e1], e2.symm, hr.now, hr.rx, hr.tx, hr.size, rfl, hr.two.ok.ch k8 (fun a ha e => by have e3 : a.block = O + 1 := e; have := hr.al a ha; omega) (fun q hq e => by have e3 : q = O + 1 := e; have := hr.dlt q hq; omega), fun a ha => Nat.lt_of_lt_of_le (hr.all a ha) k8.size, hr.alr.imp id (fun h a ha => by have := h a ha; have := hr.two.at'; omega), hr.dr, hr.two.bel.trans (k8.below (fun q e => by have := hr.two.at'; omega) hr.two.bel.size)⟩
  have HEND : Hid _ := hend
  rw [show #[Value.agg r.cells, .int .i64 n] = #[Value.agg C, .int .i64 n] from by rw [hC]]
  clear hW hC hO h hal T0 hn hend
  go_enter Try.func69, Try.ntmps69
  go_upto_region 1 with fail
  rw [HW.out, HO.out]
  go_wp2
  go_loopw [6] (fun v wr => ∃ (k : Nat) (s : RV), k ≤ n.toNat ∧ v = .int .i64 k ∧ Rf w wr O r s k) (fun v _ => n.toNat - (intOf v).toNat)
  case atStart => exact ⟨0, r, Nat.zero_le _, rfl, HST.out⟩
  case round =>
    obtain ⟨k, s, hk, rfl, hR⟩ := hrel
    have hbox := hR.two.box
    have hres := hR.two.res
    have HR : Hid _ := hR
    have hk8 : k ≤ 8192 := by have := hR.cnt; have := rcnt_le r.L 1 r.L.length; have := HL.out; omega
    have wk : IntKind.i64.wrap ((k : Int) + 1) = (k : Int) + 1 := i64_small _ (by omega) (by omega)
    by_cases hlt : (k : Int) < n
    · have g0 : decide ((k : Int) < n) = true := decide_eq_true hlt
      have Q1 : Hid _ := first_any wr s.rx s.tx s.size s.al s.cl s.now s.L hR.two.ok.bufs hR.two.ok.len 1
      obtain ⟨B, hB⟩ : ∃ B, B = bst s.L 1 s.L.length := ⟨_, rfl⟩
      rw [← hB] at Q1
      have HB : Hid (bst s.L 1 s.L.length = B) := hB.symm
      clear hR hB
      go_wp2_with (first | (refine wpList_load_rp (.tmp 2) rfl O s rfl hbox rfl ?_))
      refine Calls.mono Q1.out ?_
      rintro e w3 ⟨rfl, hb3⟩
      have HR3 : Hid _ := HR.out.old hb3
      clear Q1 hb3 hbox hres
      by_cases hneg : B < 0
      · have g1 : decide (B < 0) = true := decide_eq_true hneg
        go_upto_region 4 with fail
        refine MixH.start (fun w' => RpAt w' O s) (by kernel_rfl) ?_
        obtain ⟨wA, hwA⟩ : ∃ wA, wA = w3.drew := ⟨_, rfl⟩
        have HwA : Hid (Rf w wA O r s k) := by rw [hwA]; exact HR3.out.old (Below.refl _ _).drew
        have hS := HwA.out.two.box
        rw [← hwA]
        clear hwA
        refine MixH.takes [true, true, true, false, false, false, false, false, true] 8 (by kernel_rfl) (by kernel_rfl) (by decide) (by kernel_rfl) hS (fun K hK => ?_)
        simp only [Mix.pick]
        repeat (go_big_quiet_step (fail))
        refine wpQuiet_nil (hK _ ?_)
        clear hK K
        refine MixH.take 7 3 _ (undef) rfl (by kernel_rfl) (by kernel_rfl) (by kernel_rfl) (by kernel_rfl) (.inr ⟨rfl, rfl⟩) hS (fun a' ha => ?_)
        simp only [Act.put, List.setIfInBounds_toArray, List.set_cons_succ, List.set_cons_zero] at ha
        subst ha
        refine MixH.take 6 5 _ (undef) rfl (by kernel_rfl) (by kernel_rfl) (by kernel_rfl) (by kernel_rfl) (.inr ⟨rfl, rfl⟩) hS (fun a' ha => ?_)
        simp only [Act.put, List.setIfInBounds_toArray, List.set_cons_succ, List.set_cons_zero] at ha
        subst ha
        refine MixH.take 5 9 _ (undef) rfl (by kernel_rfl) (by kernel_rfl) (by kernel_rfl) (by kernel_rfl) (.inr ⟨rfl, rfl⟩) hS (fun a' ha => ?_)
        simp only [Act.put, List.setIfInBounds_toArray, List.set_cons_succ, List.set_cons_zero] at ha
        subst ha
        refine MixH.take 4 4 _ (undef) rfl (by kernel_rfl) (by kernel_rfl) (by kernel_rfl) (by kernel_rfl) (.inr ⟨rfl, rfl⟩) hS (fun a' ha => ?_)
        simp only [Act.put, List.setIfInBounds_toArray, List.set_cons_succ, List.set_cons_zero] at ha
        subst ha
        refine MixH.take 3 6 _ (undef) rfl (by kernel_rfl) (by kernel_rfl) (by kernel_rfl) (by kernel_rfl) (.inr ⟨rfl, rfl⟩) hS (fun a' ha => ?_)
        simp only [Act.put, List.setIfInBounds_toArray, List.set_cons_succ, List.set_cons_zero] at ha
        subst ha
        refine MixH.takes [false, false, false, false, false, false, false, true, false, false, true, true] 0 (by kernel_rfl) (by kernel_rfl) (by decide) (by kernel_rfl) hS (fun K hK => ?_)
        simp only [Mix.pick]
        repeat (go_big_quiet_step (fail))
        refine wpQuiet_nil (hK _ ?_)
        clear hK K
        refine MixH.done (by kernel_rfl) ?_
        obtain ⟨e1, e2⟩ := HwA.out.at_stop (.inl (by rw [HB.out]; exact hneg)) n.toNat (by omega)
        have HE1 : Hid _ := e1
        have HE2 : Hid _ := e2
        have hres := HwA.out.two.res
        clear e1 e2
        go_wp2_with (first | (refine wpList_load_rp (.tmp 2) rfl O s rfl hS rfl ?_) | (refine wpList_store_rp (.tmp 4) (.tmp 25) rfl rfl (O + 1) rz s rfl rfl hres rfl ?_))
        intro w5 hR5 k5
        have hfin := HEND.out wA w5 s k HwA.out HE1.out HE2.out k5
        clear k5 hS hres
        go_wp2
        (try simp only [Exit.inBlock, Exit.then])
        refine bodyPost_ret (results_rp_tmp rfl _ _ (O + 1) s rfl hR5) rfl ?_
        exact hfin
      · have g1 : decide (B < 0) = false := decide_eq_false hneg
        obtain ⟨i, rfl⟩ : ∃ i : Nat, B = (i : Int) := ⟨B.toNat, by omega⟩
        obtain ⟨c2, hc2⟩ : ∃ c, c = rcnt s.L 2 s.L.length := ⟨_, rfl⟩
        obtain ⟨c3, hc3⟩ : ∃ c, c = rcnt s.L 3 s.L.length := ⟨_, rfl⟩
        have HC2 : Hid (rcnt s.L 2 s.L.length = c2) := hc2.symm
        have HC3 : Hid (rcnt s.L 3 s.L.length = c3) := hc3.symm
        have l2 : c2 ≤ 8192 := by have := rcnt_le s.L 2 s.L.length; have := HR3.out.two.ok.len; omega
        have l3 : c3 ≤ 8192 := by have := rcnt_le s.L 3 s.L.length; have := HR3.out.two.ok.len; omega
        have wq : IntKind.i64.wrap ((c2 : Int) + (c3 : Int)) = (c2 : Int) + (c3 : Int) := i64_small _ (by omega) (by omega)
        clear hc2 hc3
        go_upto_region 4 with fail
        by_cases hfull : s.rx ≤ c2 + c3
        · have g2 : decide (s.rx ≤ c2 + c3) = true := decide_eq_true hfull
          have g3 : decide ((s.rx : Int) ≤ (c2 : Int) + (c3 : Int)) = true := decide_eq_true (by omega)
          refine MixH.start (fun w' => RpAt w' O s) (by kernel_rfl) ?_
          obtain ⟨wA, hwA⟩ : ∃ wA, wA = w3.drew := ⟨_, rfl⟩
          have HwA : Hid (Rf w wA O r s k) := by rw [hwA]; exact HR3.out.old (Below.refl _ _).drew
          have hS := HwA.out.two.box
          rw [← hwA]
          clear hwA
          refine MixH.takes [true, true, true, false, false, false, false, false, true] 8 (by kernel_rfl) (by kernel_rfl) (by decide) (by kernel_rfl) hS (fun K hK => ?_)
          simp only [Mix.pick]
          repeat (go_big_quiet_step (fail))
          refine wpQuiet_nil (hK _ ?_)
          clear hK K
          refine MixH.take 7 3 _ (.agg s.cells) rfl (by kernel_rfl) (by kernel_rfl) (by kernel_rfl) (by kernel_rfl) (yields_rp (.tmp 2) rfl O s rfl rfl) hS (fun a' ha => ?_)
          simp only [Act.put, List.setIfInBounds_toArray, List.set_cons_succ, List.set_cons_zero] at ha
          subst ha
          refine MixH.take 6 5 _ (.agg s.cells) rfl (by kernel_rfl) (by kernel_rfl) (by kernel_rfl) (by kernel_rfl) (yields_rp (.tmp 2) rfl O s rfl rfl) hS (fun a' ha => ?_)
          simp only [Act.put, List.setIfInBounds_toArray, List.set_cons_succ, List.set_cons_zero] at ha
          subst ha
          refine MixH.take 5 9 _ (.int .i64 s.rx) rfl (by kernel_rfl) (by kernel_rfl) (by kernel_rfl) (by kernel_rfl) (yields_rx (.tmp 21) rfl O s rfl rfl) hS (fun a' ha => ?_)
          simp only [Act.put, List.setIfInBounds_toArray, List.set_cons_succ, List.set_cons_zero] at ha
          subst ha
          refine MixH.one [false, false, false, false, true] 4 4 _ rfl rfl (by kernel_rfl) (by kernel_rfl) (fun K hK => ?_)
          simp only [Mix.pick]
          have Q2 : Hid (Calls Try.prog 61 #[.agg s.cells, .int .i64 (2 : Nat)] wA fun e w' => e = .returned (.int .i64 (c2 : Nat)) ∧ Below wA.heap.size wA w') := by
            have := cnt_q wA s HwA.out.two.ok 2
            rw [HC2.out] at this
            exact this
          go_wp2_with fail
          refine Calls.mono Q2.out ?_
          rintro e wB ⟨rfl, hb2⟩
          have HwB : Hid _ := HwA.out.old hb2
          replace hS := HwB.out.two.box
          clear hb2 Q2
          go_wp2
          refine ⟨rfl, hK _ _ hS ?_⟩
          clear hK K
          refine MixH.one [false, false, false, false, false, false, true] 3 6 _ rfl rfl (by kernel_rfl) (by kernel_rfl) (fun K hK => ?_)
          simp only [Mix.pick]
          have Q3 : Hid (Calls Try.prog 61 #[.agg s.cells, .int .i64 (3 : Nat)] wB fun e w' => e = .returned (.int .i64 (c3 : Nat)) ∧ Below wB.heap.size wB w') := by
            have := cnt_q wB s HwB.out.two.ok 3
            rw [HC3.out] at this
            exact this
          go_wp2_with fail
          refine Calls.mono Q3.out ?_
          rintro e wC ⟨rfl, hb3⟩
          have HwC : Hid _ := HwB.out.old hb3
          replace hS := HwC.out.two.box
          clear hb3 Q3
          go_wp2
          refine ⟨rfl, hK _ _ hS ?_⟩
          clear hK K
          refine MixH.takes [false, false, false, false, false, false, false, true, false, false, true, true] 0 (by kernel_rfl) (by kernel_rfl) (by decide) (by kernel_rfl) hS (fun K hK => ?_)
          simp only [Mix.pick]
          repeat (go_big_quiet_step (fail))
          refine wpQuiet_nil (hK _ ?_)
          clear hK K
          refine MixH.done (by kernel_rfl) ?_
          obtain ⟨e1, e2⟩ := HwC.out.at_stop (.inr (by rw [HC2.out, HC3.out]; exact hfull)) n.toNat (by omega)
          have HE1 : Hid _ := e1
          have HE2 : Hid _ := e2
          have hres := HwC.out.two.res
          clear e1 e2
          go_wp2_with (first | (refine wpList_load_rp (.tmp 2) rfl O s rfl hS rfl ?_) | (refine wpList_store_rp (.tmp 4) (.tmp 25) rfl rfl (O + 1) rz s rfl rfl hres rfl ?_))
          intro w5 hR5 k5
          have hfin := HEND.out wC w5 s k HwC.out HE1.out HE2.out k5
          clear k5 hS hres
          go_wp2
          (try simp only [Exit.inBlock, Exit.then])
          refine bodyPost_ret (results_rp_tmp rfl _ _ (O + 1) s rfl hR5) rfl ?_
          exact hfin
        · have g2 : decide (s.rx ≤ c2 + c3) = false := decide_eq_false hfull
          have g3 : decide ((s.rx : Int) ≤ (c2 : Int) + (c3 : Int)) = false := decide_eq_false (by omega)
          refine MixH.start (fun w' => RpAt w' O s) (by kernel_rfl) ?_
          obtain ⟨wA, hwA⟩ : ∃ wA, wA = w3.drew := ⟨_, rfl⟩
          have HwA : Hid (Rf w wA O r s k) := by rw [hwA]; exact HR3.out.old (Below.refl _ _).drew
          have hS := HwA.out.two.box
          rw [← hwA]
          clear hwA
          refine MixH.takes [true, true, true, false, false, false, false, false, true] 8 (by kernel_rfl) (by kernel_rfl) (by decide) (by kernel_rfl) hS (fun K hK => ?_)
          simp only [Mix.pick]
          repeat (go_big_quiet_step (fail))
          refine wpQuiet_nil (hK _ ?_)
          clear hK K
          refine MixH.take 7 3 _ (.agg s.cells) rfl (by kernel_rfl) (by kernel_rfl) (by kernel_rfl) (by kernel_rfl) (yields_rp (.tmp 2) rfl O s rfl rfl) hS (fun a' ha => ?_)
          simp only [Act.put, List.setIfInBounds_toArray, List.set_cons_succ, List.set_cons_zero] at ha
          subst ha
          refine MixH.take 6 5 _ (.agg s.cells) rfl (by kernel_rfl) (by kernel_rfl) (by kernel_rfl) (by kernel_rfl) (yields_rp (.tmp 2) rfl O s rfl rfl) hS (fun a' ha => ?_)
          simp only [Act.put, List.setIfInBounds_toArray, List.set_cons_succ, List.set_cons_zero] at ha
          subst ha
          refine MixH.take 5 9 _ (.int .i64 s.rx) rfl (by kernel_rfl) (by kernel_rfl) (by kernel_rfl) (by kernel_rfl) (yields_rx (.tmp 21) rfl O s rfl rfl) hS (fun a' ha => ?_)
          simp only [Act.put, List.setIfInBounds_toArray, List.set_cons_succ, List.set_cons_zero] at ha
          subst ha
          refine MixH.one [false, false, false, false, true] 4 4 _ rfl rfl (by kernel_rfl) (by kernel_rfl) (fun K hK => ?_)
          simp only [Mix.pick]
          have Q2 : Hid (Calls Try.prog 61 #[.agg s.cells, .int .i64 (2 : Nat)] wA fun e w' => e = .returned (.int .i64 (c2 : Nat)) ∧ Below wA.heap.size wA w') := by
            have := cnt_q wA s HwA.out.two.ok 2
            rw [HC2.out] at this
            exact this
          go_wp2_with fail
          refine Calls.mono Q2.out ?_
          rintro e wB ⟨rfl, hb2⟩
          have HwB : Hid _ := HwA.out.old hb2
          replace hS := HwB.out.two.box
          clear hb2 Q2
          go_wp2
          refine ⟨rfl, hK _ _ hS ?_⟩
          clear hK K
          refine MixH.one [false, false, false, false, false, false, true] 3 6 _ rfl rfl (by kernel_rfl) (by kernel_rfl) (fun K hK => ?_)
          simp only [Mix.pick]
          have Q3 : Hid (Calls Try.prog 61 #[.agg s.cells, .int .i64 (3 : Nat)] wB fun e w' => e = .returned (.int .i64 (c3 : Nat)) ∧ Below wB.heap.size wB w') := by
            have := cnt_q wB s HwB.out.two.ok 3
            rw [HC3.out] at this
            exact this
          go_wp2_with fail
          refine Calls.mono Q3.out ?_
          rintro e wC ⟨rfl, hb3⟩
          have HwC : Hid _ := HwB.out.old hb3
          replace hS := HwC.out.two.box
          clear hb3 Q3
          go_wp2
          refine ⟨rfl, hK _ _ hS ?_⟩
          clear hK K
          refine MixH.takes [false, false, false, false, false, false, false, true, false, false, true, true] 0 (by kernel_rfl) (by kernel_rfl) (by decide) (by kernel_rfl) hS (fun K hK => ?_)
          simp only [Mix.pick]
          repeat (go_big_quiet_step (fail))
          refine wpQuiet_nil (hK _ ?_)
          clear hK K
          refine MixH.done (by kernel_rfl) ?_
          have hil : i < s.L.length := by have := bst_lt s.L 1 s.L.length; rw [HB.out] at this; omega
          have Q6 : Hid _ := mv_any wC s HwC.out.two.ok (HwC.out.room HL.out HNW.out (by rw [HB.out]; omega)) i hil 2 (by decide)
          have HNS : Hid (¬ rfStop s.rx s.L) := by
            intro hc
            rcases hc with hc | hc
            · rw [HB.out] at hc; omega
            · rw [HC2.out, HC3.out] at hc; exact hfull hc
          clear g2 g3 hfull hil
          go_wp2_with (first | (refine wpList_load_rp (.tmp 2) rfl O s rfl hS rfl ?_))
          refine Calls.mono Q6.out ?_
          rintro e w5 ⟨g, cl, rfl, ok5, hg5, hb5⟩
          have HX : Hid (∀ w6, RpAt w6 O (s.mv i 2 g cl) → Ch (fun q => q = O) w5 w6 → Rf w w6 O r (s.mv i 2 g cl) (k + 1)) := fun w6 hb kk => HwC.out.step HB.out HNS.out ok5 hg5 hb5 hb kk
          obtain ⟨s', hs'⟩ : ∃ s', s' = s.mv i 2 g cl := ⟨_, rfl⟩
          rw [← hs'] at HX ⊢
          have hbox5 := RpAt.below hS hb5
          clear Q6 ok5 hg5 hb5 hs' hS
          go_wp2_with (first | (refine wpList_store_rp (.tmp 2) (.tmp 29) rfl rfl O s s' rfl rfl hbox5 rfl ?_))
          intro w6 hbox6 k6
          have HR6 : Hid _ := HX.out w6 hbox6 k6
          clear hbox5 hbox6 k6 HX
          go_wp2
          go_roundw
          case rel => exact ⟨k + 1, s', by omega, by go_num, HR6.out⟩
          case measure => simp [intOf]; omega
    · have g0 : decide ((k : Int) < n) = false := decide_eq_false hlt
      have ek : n.toNat = k := by omega
      obtain ⟨e1, e2⟩ := HR.out.at_end
      have HE1 : Hid ((rfRun r.rx n.toNat r.L r.now).1 = k) := by rw [ek]; exact e1
      have HE2 : Hid ((rfRun r.rx n.toNat r.L r.now).2 = s.L) := by rw [ek]; exact e2
      clear e1 e2 hR ek
      go_wp2_with (first | (refine wpList_load_rp (.tmp 2) rfl O s rfl hbox rfl ?_) | (refine wpList_store_rp (.tmp 4) (.tmp 32) rfl rfl (O + 1) rz s rfl rfl hres rfl ?_))
      intro w5 hR5 k5
      have hfin := HEND.out wr w5 s k HR.out HE1.out HE2.out k5
      clear k5 hbox hres
      go_wp2
      (try simp only [Exit.inBlock, Exit.then])
      refine bodyPost_ret (results_rp_tmp rfl _ _ (O + 1) s rfl hR5) rfl ?_
      exact hfin
end Go.Proofs.Ythknkfggpdhdbaa
namespace Go.Proofs.Ythknkfggpdhdbaa
open Go.RowKit

/-- the bytes behind a write -/
def wrB (d : List Nat) (at' c : Nat) : List Nat := (bp d (max d.length (at' + 1))).set at' c
theorem wrB_len (d : List Nat) (at' c : Nat) : (wrB d at' c).length = max d.length (at' + 1) := by unfold wrB; rw [List.length_set, bp_len]
theorem wrB_256 (d : List Nat) (at' c : Nat) (h : ∀ x ∈ d, x < 256) (hc : c < 256) : ∀ x ∈ wrB d at' c, x < 256 := by
  intro x hx
  rcases List.mem_or_eq_of_mem_set hx with h1 | h1
  · exact bp_256 d _ h x h1
  · omega
theorem toI_set (l : List Nat) (i c : Nat) : ((toI l).map (Value.int .u8)).set i (.int .u8 (c : Int)) = (toI (l.set i c)).map (Value.int .u8) := by
  unfold toI
  rw [List.map_set, List.map_set]
theorem owns_pos {w : World} {base : Nat} {e : TypeId} {v : Value} {n : Nat} {xs : List Value} (h : w.ownsRow base e 1 v n xs) (hn : 0 < n) : ∃ g c, v = .slice (some ⟨g, 0, none⟩) n c := by
  rcases h.2 with ⟨rfl, h0⟩ | ⟨g, cap, cur, rfl, _⟩
  · omega
  · exact ⟨g, cap, rfl⟩
theorem pt_lt {w' : World} {r : RV} {k g cl : Nat} {x : RB} (h : RV.ok w' (r.pt k x g cl)) (hk : k < r.L.length) : g < w'.heap.size := by
  rcases h.bufs with h0 | ⟨b, o, e5, hlt, _⟩
  · have : (r.L.set k x).length = 0 := by rw [show r.L.set k x = [] from h0]; rfl
    rw [List.length_set] at this
    omega
  · have := Option.some.inj e5
    simp only [Addr.mk.injEq] at this
    omega
set_option maxRecDepth 100000 in
set_option maxHeartbeats 3200000 in
theorem writeR_any (w : World) (r : RV) (h : RV.ok w r) (hal : ∀ a, r.al = some a → a.block < w.heap.size) (k : Nat) (hk : k < r.L.length) (at' c : Nat) (hat : at' + 1 ≤ 65535) (hc : c < 256) :
    Calls Try.prog 74 #[.agg r.cells, .int .i64 k, .int .i64 at', .int .u8 c] w fun e w' => ∃ (g cl : Nat) (av : Option Addr) (cv : Nat), e = .returned (.agg (r.pt k ⟨r.L[k].pl, r.L[k].since, r.L[k].n, av, cv, wrB r.L[k].d at' c⟩ g cl).cells) ∧ RV.ok w' (r.pt k ⟨r.L[k].pl, r.L[k].since, r.L[k].n, av, cv, wrB r.L[k].d at' c⟩ g cl) ∧ g < w'.heap.size ∧ w.heap.size ≤ g ∧ (∀ a, av = some a → w.heap.size ≤ a.block) ∧ Below w.heap.size w w' := by
  have T0 := two_new w r h
  obtain ⟨W, hW⟩ : ∃ W, W = (w.alloc (.cells r.cells 26)).alloc (.cells #[.int .i64 0, .int .i64 0, .int .i64 0, .slice none 0 0, .int .i64 0] 26) := ⟨_, rfl⟩
  obtain ⟨O, hO⟩ : ∃ O, O = w.heap.size := ⟨_, rfl⟩
  rw [← hW, ← hO] at T0
  obtain ⟨C, hC⟩ : ∃ C, C = r.cells := ⟨_, rfl⟩
  have HW : Hid ((w.alloc (.cells C 26)).alloc (.cells #[.int .i64 0, .int .i64 0, .int .i64 0, .slice none 0 0, .int .i64 0] 26) = W) := by rw [hC]; exact hW.symm
  have HO : Hid (w.heap.size = O) := hO.symm
  have HH : Hid _ := h
  have HAL : Hid _ := hal
  have HT : Hid _ := T0
  have hbox := T0.box
  have c3 := hbox.c3
  obtain ⟨gg, off, hal', hggl, okx, d0, d1, d2, d3⟩ := T0.ok.bufs.at k hk
  obtain ⟨N, hN⟩ : ∃ N, N = r.L.length := ⟨_, rfl⟩
  rw [hal', ← hN] at c3
  obtain ⟨x, hx⟩ : ∃ x, x = r.L[k] := ⟨_, rfl⟩
  rw [← hx] at okx d0 d1 d2 d3 ⊢
  have HK : Hid _ := hk
  have HX : Hid (x = r.L[k]'hk) := hx
  have HOK : Hid _ := okx
  have t0 : (0 : Int) ≤ (k : Int) := by omega
  have t1 : (k : Int) < (N : Int) := by omega
  have t2 : ((k : Int)).toNat = k := by omega
  have wa : IntKind.i64.wrap ((at' : Int) + 1) = (at' : Int) + 1 := i64_small _ (by omega) (by omega)
  rw [show #[Value.agg r.cells, .int .i64 (k : Int), .int .i64 (at' : Int), .int .u8 (c : Int)] = #[Value.agg C, .int .i64 (k : Int), .int .i64 (at' : Int), .int .u8 (c : Int)] from by rw [hC]]
  obtain ⟨xl, hxl⟩ : ∃ xl, xl = x.d.length := ⟨_, rfl⟩
  have HXL : Hid (x.d.length = xl) := hxl.symm
  have hdl := okx.lt.2.2.2
  rw [← hxl] at d3 hdl
  have kB0 : ∀ v : World, (v.alloc (.cells #[.int .i64 x.pl, .int .i64 x.since, .int .i64 x.n, .slice x.a xl x.c] 108)).heap[v.heap.size]? = some (.cells #[.int .i64 x.pl, .int .i64 x.since, .int .i64 x.n, .slice x.a xl x.c] 108) := fun v => heap_alloc_new _ _
  have HKB : Hid _ := kB0
  clear hW hC hO h hal T0 hN hx okx hal' hxl kB0
  go_enter Try.func74, Try.ntmps74
  go_upto_region 1 with fail
  rw [HW.out, HO.out]
  go_upto_region 2 with fail
  obtain ⟨Bd, hBd⟩ : ∃ Bd, Bd = W.heap.size := ⟨_, rfl⟩
  obtain ⟨W2, hW2⟩ : ∃ W2, W2 = W.alloc (.cells #[.int .i64 x.pl, .int .i64 x.since, .int .i64 x.n, .slice x.a xl x.c] 108) := ⟨_, rfl⟩
  have hbW : Below W.heap.size W W2 := by rw [hW2]; exact (Below.refl _ _).alloc (Nat.le_refl _) _
  have T4 := HT.out.old hbW
  have kB : W2.heap[Bd]? = some (.cells #[.int .i64 x.pl, .int .i64 x.since, .int .i64 x.n, .slice x.a xl x.c] 108) := by rw [hW2, hBd]; exact HKB.out W
  have u3 : W2.cell? ⟨Bd, 3, none⟩ = some (.slice x.a xl x.c) := by simp [World.cell?, kB]
  have hBO : O + 1 < Bd := by rw [hBd]; exact HT.out.res.lt
  have hBge : W.heap.size ≤ Bd := by omega
  have hBW : Bd < W2.heap.size := World.block_lt_of_cell? W2 _ u3
  rw [← hW2, ← hBd]
  have HT4 : Hid _ := T4
  have hbox4 := T4.box
  have Q2 : Hid _ := bytesR_any W2 r T4.ok k hk (max xl (at' + 1)) (by omega)
  rw [← HX.out] at Q2
  have HWY : Hid (wrB x.d at' c = (bp x.d (max xl (at' + 1))).set at' c) := by show _ = _; unfold wrB; rw [HXL.out]
  have HBW : Hid _ := hbW
  clear hW2 hBd hbW T4 hbox d0 d1 d2 d3 c3 hggl
  by_cases hlen : xl < at' + 1
  · have g1 : decide (xl < at' + 1) = true := decide_eq_true hlen
    have g2 : decide ((xl : Int) < (at' : Int) + 1) = true := decide_eq_true (by omega)
    have HMX : Hid (max xl (at' + 1) = at' + 1) := by show _ = _; omega
    rw [HMX.out] at Q2
    obtain ⟨M, hM⟩ : ∃ M, M = at' + 1 := ⟨_, rfl⟩
    have HM : Hid (max xl (at' + 1) = M) := by rw [hM]; exact HMX.out
    have hMi : Hid ((at' : Int) + 1 = (M : Int)) := by show _ = _; rw [hM]; rfl
    have haM : at' < M := by omega
    rw [← hM] at Q2
    clear hM HMX
    go_upto_region 5 with fail
    rw [hMi.out]
    clear hMi g1 g2 hlen
    go_wp2_with (first | (refine wpList_load_rp (.tmp 4) rfl O r rfl hbox4 rfl ?_))
    refine Calls.mono Q2.out ?_
    rintro e w5 ⟨v, rfl, hv5, hb5⟩
    have mB : w5.heap[Bd]? = some (.cells #[.int .i64 x.pl, .int .i64 x.since, .int .i64 x.n, .slice x.a xl x.c] 108) := (hb5.block Bd hBW).trans kB
    obtain ⟨g5, cv, rfl⟩ := owns_pos hv5 (by omega)
    have p3 : w5.cell? ⟨Bd, 3, none⟩ = some (.slice x.a xl x.c) := by simp [World.cell?, mB]
    have q3 : w5.frozen? ⟨Bd, 3, none⟩ = false := by simp [World.frozen?, mB]
    have hg5 : W2.heap.size ≤ g5 := (World.ownsRow.lt hv5 g5 rfl).1
    have G0 := heap_setCell_same w5 Bd 3 _ _ (.slice (some ⟨g5, 0, none⟩) M cv) mB
    have k6 : Ch (fun q => q = Bd) w5 (w5.setCell ⟨Bd, 3, none⟩ (.slice (some ⟨g5, 0, none⟩) M cv)) := (Ch.refl (fun q => q = Bd) w5).set ⟨Bd, 3, none⟩ _ rfl
    have HV5 : Hid _ := hv5
    have HB5 : Hid _ := hb5
    have hBd5 : Bd < w5.heap.size := Nat.lt_of_lt_of_le hBW hb5.size
    clear Q2 u3 kB hv5 hb5 mB hbox4
    go_upto_region 6 with fail
    obtain ⟨w6, hw6⟩ : ∃ w6, w6 = w5.setCell ⟨Bd, 3, none⟩ (.slice (some ⟨g5, 0, none⟩) M cv) := ⟨_, rfl⟩
    rw [← hw6] at k6 G0 ⊢
    have mB6 : w6.heap[Bd]? = some (.cells #[.int .i64 x.pl, .int .i64 x.since, .int .i64 x.n, (.slice (some ⟨g5, 0, none⟩) M cv)] 108) := by simpa using G0
    have hv6 : w6.ownsRow W2.heap.size 5 1 (.slice (some ⟨g5, 0, none⟩) M cv) M ((toI (bp x.d M)).map (Value.int .u8)) := k6.owns HV5.out (fun q hq e => by have := (World.ownsRow.lt HV5.out q hq).1; omega)
    have v3 : w6.cell? ⟨Bd, 3, none⟩ = some (.slice (some ⟨g5, 0, none⟩) M cv) := by simp [World.cell?, mB6]
    obtain ⟨z, vz⟩ : ∃ z, w6.cell? ⟨g5, at', none⟩ = some z := by
      have h1 := hv6.1
      have h2 := hv6.cellAt at' (by omega)
      rw [List.getElem?_eq_getElem (by omega)] at h2
      exact ⟨_, h2⟩
    have vf : w6.frozen? ⟨g5, at', none⟩ = false := hv6.frozenAt at'
    have hst := (hv6.stored at' (.int .u8 (c : Int))).1
    rw [toI_set] at hst
    have a0 : (0 : Int) ≤ (at' : Int) := by omega
    have a1 : (at' : Int) < (M : Int) := by omega
    have a2 : ((at' : Int)).toNat = at' := by omega
    have k7 : Ch (fun q => q = g5) w6 (w6.setCell ⟨g5, at', none⟩ (.int .u8 (c : Int))) := (Ch.refl (fun q => q = g5) w6).set ⟨g5, at', none⟩ _ rfl
    have K6 : Hid _ := k6
    have M6 : Hid _ := mB6
    have K7 : Hid _ := k7
    have ST : Hid _ := hst
    clear k6 mB6 hw6 G0 p3 q3 k7 hst hv6
    go_upto_region 7 with fail
    have k7 := K7.out
    have hst := ST.out
    have k6 := K6.out
    obtain ⟨w7, hw7⟩ : ∃ w7, w7 = w6.setCell ⟨g5, at', none⟩ (.int .u8 (c : Int)) := ⟨_, rfl⟩
    rw [← hw7] at k7 hst ⊢
    clear hw7 K7 ST v3 vz vf
    have mB7 : w7.heap[Bd]? = some (.cells #[.int .i64 x.pl, .int .i64 x.since, .int .i64 x.n, (.slice (some ⟨g5, 0, none⟩) M cv)] 108) := (k7.block Bd (Nat.lt_of_lt_of_le hBd5 k6.size) (show ¬ Bd = g5 by omega)).trans M6.out
    have u0 : w7.cell? ⟨Bd, 0, none⟩ = some (.int .i64 x.pl) := by simp [World.cell?, mB7]
    have u1 : w7.cell? ⟨Bd, 1, none⟩ = some (.int .i64 x.since) := by simp [World.cell?, mB7]
    have u2 : w7.cell? ⟨Bd, 2, none⟩ = some (.int .i64 x.n) := by simp [World.cell?, mB7]
    have u3 : w7.cell? ⟨Bd, 3, none⟩ = some (.slice (some ⟨g5, 0, none⟩) M cv) := by simp [World.cell?, mB7]
    have hwO := HO.out
    have T5 := HT4.out.old HB5.out
    have bW5 : Below W.heap.size W w5 := HBW.out.trans (HB5.out.mono HBW.out.size)
    have hWB : W.heap.size ≤ W2.heap.size := HBW.out.size
    have hO1W := HT.out.res.lt
    have far : ∀ q, w5.heap.size ≤ q ∨ q < w5.heap.size := fun q => by omega
    have T6 : Two w w6 O r := ⟨T5.box.ch k6 (by omega), T5.res.ch k6 (by omega), T5.bel.trans (k6.below (fun q e => by omega) T5.bel.size), T5.ok.ch k6 (fun a ha e => by have h1 := HAL.out a ha; have e' : a.block = Bd := e; omega) (fun q hq e => by have h1 := HH.out.dlt q hq; omega), T5.at'⟩
    have T7 : Two w w7 O r := ⟨T6.box.ch k7 (by omega), T6.res.ch k7 (by omega), T6.bel.trans (k7.below (fun q e => by omega) T6.bel.size), T6.ok.ch k7 (fun a ha e => by have h1 := HAL.out a ha; have e' : a.block = g5 := e; omega) (fun q hq e => by have h1 := HH.out.dlt q hq; omega), T6.at'⟩
    have bW7 : Below W.heap.size W w7 := (bW5.trans (k6.below (fun q e => by omega) bW5.size)).trans (k7.below (fun q e => by omega) (Nat.le_trans bW5.size k6.size))
    obtain ⟨Y, hY⟩ : ∃ Y, Y = wrB x.d at' c := ⟨_, rfl⟩
    have eY : (bp x.d M).set at' c = Y := by rw [hY, HWY.out, HM.out]
    rw [eY] at hst
    have hYl : Y.length = M := by rw [hY, wrB_len, HXL.out]; exact HM.out
    have hYs : Seg .u8 w7 (some ⟨g5, 0, none⟩) (toI Y) := by
      obtain ⟨aa, cc, e1, sg, _⟩ := owns_seg hst
      have e2 : some ⟨g5, 0, none⟩ = aa := (Value.slice.inj e1).1
      rw [e2]; exact sg
    have okY : RB.ok w7 ⟨x.pl, x.since, x.n, some ⟨g5, 0, none⟩, cv, Y⟩ := ⟨hYs, by rw [hY]; exact wrB_256 _ _ _ HOK.out.h256 hc, ⟨HOK.out.lt.1, HOK.out.lt.2.1, HOK.out.lt.2.2.1, by show Y.length ≤ _; rw [hYl, ← HM.out]; omega⟩⟩
    have Q3 : Hid _ := pt_any w7 r T7.ok k hk ⟨x.pl, x.since, x.n, some ⟨g5, 0, none⟩, cv, Y⟩ okY
    simp only at Q3
    rw [hYl] at Q3
    have hbox7 := T7.box
    have hres7 := T7.res
    have BW7 : Hid _ := bW7
    have HYY : Hid (Y = wrB x.d at' c) := hY
    clear k6 k7 hst mB7 T5 T6 T7 bW5 bW7 hY eY hYl hYs okY hwO far hBd5
    go_wp2_with (first | (refine wpList_load_rp (.tmp 4) rfl O r rfl hbox7 rfl ?_))
    refine Calls.mono Q3.out ?_
    rintro e w8 ⟨g', cl', rfl, ok8, hg8, hb8⟩
    have hgl := pt_lt ok8 hk
    obtain ⟨r1, hr1⟩ : ∃ r1, r1 = r.pt k ⟨x.pl, x.since, x.n, some ⟨g5, 0, none⟩, cv, Y⟩ g' cl' := ⟨_, rfl⟩
    rw [← hr1] at ok8 ⊢
    have HR1 : Hid _ := hr1
    have hres8 := hres7.below hb8
    have bW8 : Below W.heap.size W w8 := BW7.out.trans (hb8.mono BW7.out.size)
    have HLD : Hid (∀ w9, Ch (fun q => q = O + 1) w8 w9 → RV.ok w9 r1 ∧ Below w.heap.size w w9) := fun w9 k9 => HT.out.laid bW8 ok8 (fun a ha => .inr (by rw [HR1.out] at ha; have e2 := Option.some.inj ha; subst e2; exact Nat.le_trans BW7.out.size hg8)) (fun q hq => by
      rw [HR1.out] at hq
      rcases pt_dblk _ _ _ _ _ _ hq with h1 | ⟨_, a, h2, h3⟩
      · exact .inl h1
      · have e2 := Option.some.inj h2
        subst e2
        exact .inr (by have e3 : g5 = q := h3; omega)) HH.out HAL.out k9
    have HG8 : Hid (w.heap.size ≤ g' ∧ w.heap.size ≤ g5) := ⟨by have := BW7.out.size; have := HT.out.bel.size; omega, by have := HT.out.bel.size; omega⟩
    clear Q3 hbox7 u0 u1 u2 u3 ok8 hg8 hr1 hres7 bW8 hb8
    go_wp2_with (first | (refine wpList_store_rp (.tmp 8) (.tmp 38) rfl rfl (O + 1) rz r1 rfl rfl hres8 rfl ?_))
    intro w9 hR9 k9
    obtain ⟨ok9, b9⟩ := HLD.out w9 k9
    have hgl9 : g' < w9.heap.size := Nat.lt_of_lt_of_le hgl k9.size
    have HOK9 : Hid _ := ok9
    have HB9 : Hid _ := b9
    have HR9 : Hid _ := hR9
    clear ok9 b9 k9 hR9 hres8 HLD
    go_wp2
    (try simp only [Exit.inBlock, Exit.then])
    refine bodyPost_ret (v := .agg r1.cells) ?_ rfl ?_
    · exact results_cell_row rfl _ _ (O + 1) 26 _ _ _ rfl HR9.out Try.underlying26 rfl Try.sizePortR
    have e1 := HR1.out
    have e2 := HYY.out
    subst e2
    exact ⟨g', cl', some ⟨g5, 0, none⟩, cv, by rw [e1], by rw [← e1]; exact HOK9.out, hgl9, HG8.out.1, fun a ha => by have e3 := Option.some.inj ha; subst e3; exact HG8.out.2, HB9.out⟩
  · have g1 : decide (xl < at' + 1) = false := decide_eq_false hlen
    have g2 : decide ((xl : Int) < (at' : Int) + 1) = false := decide_eq_false (by omega)
    have HMX : Hid (max xl (at' + 1) = xl) := by show _ = _; omega
    rw [HMX.out] at Q2
    obtain ⟨M, hM⟩ : ∃ M, M = xl := ⟨_, rfl⟩
    have HM : Hid (max xl (at' + 1) = M) := by rw [hM]; exact HMX.out
    have haM : at' < M := by omega
    have hMi : Hid (xl = M) := hM.symm
    rw [← hM] at Q2
    clear hM HMX
    go_upto_region 5 with fail
    rw [hMi.out]
    clear hMi g1 g2 hlen
    go_wp2_with (first | (refine wpList_load_rp (.tmp 4) rfl O r rfl hbox4 rfl ?_))
    refine Calls.mono Q2.out ?_
    rintro e w5 ⟨v, rfl, hv5, hb5⟩
    have mB : w5.heap[Bd]? = some (.cells #[.int .i64 x.pl, .int .i64 x.since, .int .i64 x.n, .slice x.a xl x.c] 108) := (hb5.block Bd hBW).trans kB
    obtain ⟨g5, cv, rfl⟩ := owns_pos hv5 (by omega)
    have p3 : w5.cell? ⟨Bd, 3, none⟩ = some (.slice x.a xl x.c) := by simp [World.cell?, mB]
    have q3 : w5.frozen? ⟨Bd, 3, none⟩ = false := by simp [World.frozen?, mB]
    have hg5 : W2.heap.size ≤ g5 := (World.ownsRow.lt hv5 g5 rfl).1
    have G0 := heap_setCell_same w5 Bd 3 _ _ (.slice (some ⟨g5, 0, none⟩) M cv) mB
    have k6 : Ch (fun q => q = Bd) w5 (w5.setCell ⟨Bd, 3, none⟩ (.slice (some ⟨g5, 0, none⟩) M cv)) := (Ch.refl (fun q => q = Bd) w5).set ⟨Bd, 3, none⟩ _ rfl
    have HV5 : Hid _ := hv5
    have HB5 : Hid _ := hb5
    have hBd5 : Bd < w5.heap.size := Nat.lt_of_lt_of_le hBW hb5.size
    clear Q2 u3 kB hv5 hb5 mB hbox4
    go_upto_region 6 with fail
    obtain ⟨w6, hw6⟩ : ∃ w6, w6 = w5.setCell ⟨Bd, 3, none⟩ (.slice (some ⟨g5, 0, none⟩) M cv) := ⟨_, rfl⟩
    rw [← hw6] at k6 G0 ⊢
    have mB6 : w6.heap[Bd]? = some (.cells #[.int .i64 x.pl, .int .i64 x.since, .int .i64 x.n, (.slice (some ⟨g5, 0, none⟩) M cv)] 108) := by simpa using G0
    have hv6 : w6.ownsRow W2.heap.size 5 1 (.slice (some ⟨g5, 0, none⟩) M cv) M ((toI (bp x.d M)).map (Value.int .u8)) := k6.owns HV5.out (fun q hq e => by have := (World.ownsRow.lt HV5.out q hq).1; omega)
    have v3 : w6.cell? ⟨Bd, 3, none⟩ = some (.slice (some ⟨g5, 0, none⟩) M cv) := by simp [World.cell?, mB6]
    obtain ⟨z, vz⟩ : ∃ z, w6.cell? ⟨g5, at', none⟩ = some z := by
      have h1 := hv6.1
      have h2 := hv6.cellAt at' (by omega)
      rw [List.getElem?_eq_getElem (by omega)] at h2
      exact ⟨_, h2⟩
    have vf : w6.frozen? ⟨g5, at', none⟩ = false := hv6.frozenAt at'
    have hst := (hv6.stored at' (.int .u8 (c : Int))).1
    rw [toI_set] at hst
    have a0 : (0 : Int) ≤ (at' : Int) := by omega
    have a1 : (at' : Int) < (M : Int) := by omega
    have a2 : ((at' : Int)).toNat = at' := by omega
    have k7 : Ch (fun q => q = g5) w6 (w6.setCell ⟨g5, at', none⟩ (.int .u8 (c : Int))) := (Ch.refl (fun q => q = g5) w6).set ⟨g5, at', none⟩ _ rfl
    have K6 : Hid _ := k6
    have M6 : Hid _ := mB6
    have K7 : Hid _ := k7
    have ST : Hid _ := hst
    clear k6 mB6 hw6 G0 p3 q3 k7 hst hv6
    go_upto_region 7 with fail
    have k7 := K7.out
    have hst := ST.out
    have k6 := K6.out
    obtain ⟨w7, hw7⟩ : ∃ w7, w7 = w6.setCell ⟨g5, at', none⟩ (.int .u8 (c : Int)) := ⟨_, rfl⟩
    rw [← hw7] at k7 hst ⊢
    clear hw7 K7 ST v3 vz vf
    have mB7 : w7.heap[Bd]? = some (.cells #[.int .i64 x.pl, .int .i64 x.since, .int .i64 x.n, (.slice (some ⟨g5, 0, none⟩) M cv)] 108) := (k7.block Bd (Nat.lt_of_lt_of_le hBd5 k6.size) (show ¬ Bd = g5 by omega)).trans M6.out
    have u0 : w7.cell? ⟨Bd, 0, none⟩ = some (.int .i64 x.pl) := by simp [World.cell?, mB7]
    have u1 : w7.cell? ⟨Bd, 1, none⟩ = some (.int .i64 x.since) := by simp [World.cell?, mB7]
    have u2 : w7.cell? ⟨Bd, 2, none⟩ = some (.int .i64 x.n) := by simp [World.cell?, mB7]
    have u3 : w7.cell? ⟨Bd, 3, none⟩ = some (.slice (some ⟨g5, 0, none⟩) M cv) := by simp [World.cell?, mB7]
    have hwO := HO.out
    have T5 := HT4.out.old HB5.out
    have bW5 : Below W.heap.size W w5 := HBW.out.trans (HB5.out.mono HBW.out.size)
    have hWB : W.heap.size ≤ W2.heap.size := HBW.out.size
    have hO1W := HT.out.res.lt
    have far : ∀ q, w5.heap.size ≤ q ∨ q < w5.heap.size := fun q => by omega
    have T6 : Two w w6 O r := ⟨T5.box.ch k6 (by omega), T5.res.ch k6 (by omega), T5.bel.trans (k6.below (fun q e => by omega) T5.bel.size), T5.ok.ch k6 (fun a ha e => by have h1 := HAL.out a ha; have e' : a.block = Bd := e; omega) (fun q hq e => by have h1 := HH.out.dlt q hq; omega), T5.at'⟩
    have T7 : Two w w7 O r := ⟨T6.box.ch k7 (by omega), T6.res.ch k7 (by omega), T6.bel.trans (k7.below (fun q e => by omega) T6.bel.size), T6.ok.ch k7 (fun a ha e => by have h1 := HAL.out a ha; have e' : a.block = g5 := e; omega) (fun q hq e => by have h1 := HH.out.dlt q hq; omega), T6.at'⟩
    have bW7 : Below W.heap.size W w7 := (bW5.trans (k6.below (fun q e => by omega) bW5.size)).trans (k7.below (fun q e => by omega) (Nat.le_trans bW5.size k6.size))
    obtain ⟨Y, hY⟩ : ∃ Y, Y = wrB x.d at' c := ⟨_, rfl⟩
    have eY : (bp x.d M).set at' c = Y := by rw [hY, HWY.out, HM.out]
    rw [eY] at hst
    have hYl : Y.length = M := by rw [hY, wrB_len, HXL.out]; exact HM.out
    have hYs : Seg .u8 w7 (some ⟨g5, 0, none⟩) (toI Y) := by
      obtain ⟨aa, cc, e1, sg, _⟩ := owns_seg hst
      have e2 : some ⟨g5, 0, none⟩ = aa := (Value.slice.inj e1).1
      rw [e2]; exact sg
    have okY : RB.ok w7 ⟨x.pl, x.since, x.n, some ⟨g5, 0, none⟩, cv, Y⟩ := ⟨hYs, by rw [hY]; exact wrB_256 _ _ _ HOK.out.h256 hc, ⟨HOK.out.lt.1, HOK.out.lt.2.1, HOK.out.lt.2.2.1, by show Y.length ≤ _; rw [hYl, ← HM.out]; omega⟩⟩
    have Q3 : Hid _ := pt_any w7 r T7.ok k hk ⟨x.pl, x.since, x.n, some ⟨g5, 0, none⟩, cv, Y⟩ okY
    simp only at Q3
    rw [hYl] at Q3
    have hbox7 := T7.box
    have hres7 := T7.res
    have BW7 : Hid _ := bW7
    have HYY : Hid (Y = wrB x.d at' c) := hY
    clear k6 k7 hst mB7 T5 T6 T7 bW5 bW7 hY eY hYl hYs okY hwO far hBd5
    go_wp2_with (first | (refine wpList_load_rp (.tmp 4) rfl O r rfl hbox7 rfl ?_))
    refine Calls.mono Q3.out ?_
    rintro e w8 ⟨g', cl', rfl, ok8, hg8, hb8⟩
    have hgl := pt_lt ok8 hk
    obtain ⟨r1, hr1⟩ : ∃ r1, r1 = r.pt k ⟨x.pl, x.since, x.n, some ⟨g5, 0, none⟩, cv, Y⟩ g' cl' := ⟨_, rfl⟩
    rw [← hr1] at ok8 ⊢
    have HR1 : Hid _ := hr1
    have hres8 := hres7.below hb8
    have bW8 : Below W.heap.size W w8 := BW7.out.trans (hb8.mono BW7.out.size)
    have HLD : Hid (∀ w9, Ch (fun q => q = O + 1) w8 w9 → RV.ok w9 r1 ∧ Below w.heap.size w w9) := fun w9 k9 => HT.out.laid bW8 ok8 (fun a ha => .inr (by rw [HR1.out] at ha; have e2 := Option.some.inj ha; subst e2; exact Nat.le_trans BW7.out.size hg8)) (fun q hq => by
      rw [HR1.out] at hq
      rcases pt_dblk _ _ _ _ _ _ hq with h1 | ⟨_, a, h2, h3⟩
      · exact .inl h1
      · have e2 := Option.some.inj h2
        subst e2
        exact .inr (by have e3 : g5 = q := h3; omega)) HH.out HAL.out k9
    have HG8 : Hid (w.heap.size ≤ g' ∧ w.heap.size ≤ g5) := ⟨by have := BW7.out.size; have := HT.out.bel.size; omega, by have := HT.out.bel.size; omega⟩
    clear Q3 hbox7 u0 u1 u2 u3 ok8 hg8 hr1 hres7 bW8 hb8
    go_wp2_with (first | (refine wpList_store_rp (.tmp 8) (.tmp 38) rfl rfl (O + 1) rz r1 rfl rfl hres8 rfl ?_))
    intro w9 hR9 k9
    obtain ⟨ok9, b9⟩ := HLD.out w9 k9
    have hgl9 : g' < w9.heap.size := Nat.lt_of_lt_of_le hgl k9.size
    have HOK9 : Hid _ := ok9
    have HB9 : Hid _ := b9
    have HR9 : Hid _ := hR9
    clear ok9 b9 k9 hR9 hres8 HLD
    go_wp2
    (try simp only [Exit.inBlock, Exit.then])
    refine bodyPost_ret (v := .agg r1.cells) ?_ rfl ?_
    · exact results_cell_row rfl _ _ (O + 1) 26 _ _ _ rfl HR9.out Try.underlying26 rfl Try.sizePortR
    have e1 := HR1.out
    have e2 := HYY.out
    subst e2
    exact ⟨g', cl', some ⟨g5, 0, none⟩, cv, by rw [e1], by rw [← e1]; exact HOK9.out, hgl9, HG8.out.1, fun a ha => by have e3 := Option.some.inj ha; subst e3; exact HG8.out.2, HB9.out⟩
end Go.Proofs.Ythknkfggpdhdbaa
namespace Go.Proofs.Ythknkfggpdhdbaa
open Go.RowKit

/-- the buffers of a new port -/
def freshL (k : Nat) : List RB := (List.range k).map (fun i => ⟨1, i, 0, none, 0, []⟩)
theorem freshL_len (k : Nat) : (freshL k).length = k := by simp [freshL]
theorem freshL_succ (k : Nat) : freshL (k + 1) = freshL k ++ [⟨1, k, 0, none, 0, []⟩] := by simp [freshL, List.range_succ]
theorem freshL_flat (k : Nat) : (freshL (k + 1)).flatMap RB.cells = (freshL k).flatMap RB.cells ++ [.int .i64 1, .int .i64 (k : Int), .int .i64 0, .slice none 0 0] := by
  rw [freshL_succ, List.flatMap_append]
  rfl
/-- a port under way -/
def frV (rx tx size : Nat) (a : Option Addr) (c now k : Nat) : RV := ⟨rx, tx, size, a, c, now, freshL k⟩
theorem fresh_bufs {w : World} {base k c : Nat} {a : Option Addr} (h : w.ownsRow base 108 4 (.slice a k c) k ((freshL k).flatMap RB.cells)) (hk : k ≤ 8192) : Bufs w a (freshL k) := by
  rcases h.2 with ⟨h0, h1⟩ | ⟨g, cap, cur, e, hb, hg, _⟩
  · subst h1; exact .inl rfl
  · obtain ⟨e1, _, e3⟩ := Value.slice.inj e
    subst e1 e3
    refine .inr ⟨g, 0, rfl, (Array.getElem?_eq_some_iff.1 hg).1, fun i o ho => ⟨?_, fun j hj => ?_⟩⟩
    · obtain ⟨hi, rfl⟩ := List.getElem?_eq_some_iff.1 ho
      rw [freshL_len] at hi
      have e4 : (freshL k)[i]'(by rw [freshL_len]; exact hi) = ⟨1, i, 0, none, 0, []⟩ := by simp [freshL]
      rw [e4]
      exact ⟨.inl rfl, by simp, ⟨by show (1 : Nat) ≤ 5; decide, by show i ≤ _; omega, Nat.zero_le _, Nat.zero_le _⟩⟩
    · have hi : i < k := by have := (List.getElem?_eq_some_iff.1 ho).1; rwa [freshL_len] at this
      have := h.cellAt (i * 4 + j) (by omega)
      rw [flat4 _ _ _ hj, ho] at this
      rw [Nat.zero_add]
      exact this
/-- the state of the loop -/
structure Nw (w wr : World) (R rx tx size k : Nat) (a : Option Addr) (c : Nat) : Prop where
  row : wr.ownsRow (R + 2) 108 4 (.slice a k c) k ((freshL k).flatMap RB.cells)
  box : RpAt wr (R + 1) (frV rx tx size a c 0 k)
  res : RpAt wr R rz
  bel : Below w.heap.size w wr
  at' : R = w.heap.size
  sz : R + 2 ≤ wr.heap.size
theorem Nw.push {w wr w1 w2 : World} {R rx tx size k : Nat} {a : Option Addr} {c : Nat} (h : Nw w wr R rx tx size k a c) (o : Obj) {v' : Value} (hown : w1.ownsRow (R + 2) 108 4 v' (k + 1) ((freshL (k + 1)).flatMap RB.cells)) (hg : (wr.alloc o).grownBy w1 (Value.slice a k c).ownBlock) (e : w2 = w1.setCell ⟨R + 1, 3, none⟩ v') : ∃ a' c', v' = .slice a' (k + 1) c' ∧ Nw w w2 R rx tx size (k + 1) a' c' := by
  obtain ⟨a', c', rfl⟩ := owns_shape hown
  have b1 : Below (R + 2) wr w1 := ((Below.refl (R + 2) wr).alloc h.sz o).grown hg (by have := h.sz; simp; omega) (fun q hq => (h.row.lt q hq).1)
  have kk : Ch (fun q => q = R + 1) w1 w2 := by rw [e]; exact (Ch.refl (fun q => q = R + 1) w1).set ⟨R + 1, 3, none⟩ _ rfl
  have hb1 : w1.heap[R + 1]? = _ := (b1.block (R + 1) (by omega)).trans h.box
  have G := heap_setCell_same w1 (R + 1) 3 _ _ (.slice a' (k + 1) c') hb1
  have hr1 : RpAt w1 R rz := (b1.block R (by omega)).trans h.res
  refine ⟨a', c', rfl, kk.owns hown (fun g hg' e' => by have := (hown.lt g hg').1; omega), ?_, hr1.ch kk (show ¬ R = R + 1 by omega), ?_, h.at', ?_⟩
  · rw [e]
    unfold RpAt
    rw [G]
    simp [RV.cells, rpCells, frV, freshL_len]
  · refine (h.bel.trans (b1.mono (by have := h.at'; omega))).trans (kk.below (fun q e' => by have := h.at'; omega) ?_)
    have := h.at'; have := h.sz; have := b1.size; omega
  · have := b1.size; have := kk.size; have := h.sz; omega
end Go.Proofs.Ythknkfggpdhdbaa
namespace Go.Proofs.Ythknkfggpdhdbaa
open Go.RowKit

/-- what New refuses -/
def nOut (rx tx pool size : Int) : Prop := (rx < 1 ∨ 4096 < rx) ∨ (tx < 1 ∨ 4096 < tx) ∨ (pool < 1 ∨ 8192 < pool) ∨ (size < 64 ∨ 65535 < size)
set_option maxRecDepth 100000 in
set_option maxHeartbeats 1600000 in
theorem newR_no (w : World) (rx tx pool size : Int) (h : nOut rx tx pool size) :
    Calls Try.prog 35 #[.int .i64 rx, .int .i64 tx, .int .i64 pool, .int .i64 size] w fun e w' => e = .returned (.tuple #[.agg rz.cells, .int .i64 1]) ∧ Below w.heap.size w w' := by
  obtain ⟨W, hW⟩ : ∃ W, W = w.alloc (.cells #[.int .i64 0, .int .i64 0, .int .i64 0, .slice none 0 0, .int .i64 0] 26) := ⟨_, rfl⟩
  obtain ⟨R, hR⟩ : ∃ R, R = w.heap.size := ⟨_, rfl⟩
  have bel : Below w.heap.size w W := by rw [hW]; exact (Below.refl _ _).alloc (Nat.le_refl _) _
  have res : RpAt W R rz := by rw [hW, hR]; exact rpAt_new w rz
  have HR : Hid (w.heap.size = R) := hR.symm
  have HW : Hid (w.alloc (.cells #[.int .i64 0, .int .i64 0, .int .i64 0, .slice none 0 0, .int .i64 0] 26) = W) := hW.symm
  have HB : Hid _ := bel
  have Q1 : Hid _ := out_any rx 1 4096 W
  have Q2 : Hid _ := out_any tx 1 4096 W
  have Q3 : Hid _ := out_any pool 1 8192 W
  have Q4 : Hid _ := out_any size 64 65535 W
  have fin : ∀ w5, Ch (fun q => q = R) W w5 → Below w.heap.size w w5 := fun w5 k5 => HB.out.trans (k5.below (fun q e => by have := HR.out; omega) HB.out.size)
  have HF : Hid _ := fin
  clear hW hR bel fin
  by_cases h1 : rx < 1 ∨ 4096 < rx
  · rw [decide_eq_true h1] at Q1
    clear h1 h
    go_enter Try.func35, Try.ntmps35
    go_upto_region 1 with fail
    rw [HW.out, HR.out]
    go_wp2_with fail
    refine Calls.mono Q1.out ?_
    rintro e w' ⟨rfl, rfl⟩
    go_wp2_with (first | (refine wpList_store_rp (.tmp 8) (.tmp 26) rfl rfl R rz rz rfl rfl res rfl ?_))
    intro w5 hR5 k5
    have hfin := HF.out w5 k5
    clear k5 res
    go_wp2
    (try simp only [Exit.inBlock, Exit.then])
    refine bodyPost_ret (results_rp_tmp rfl _ _ R rz rfl hR5) rfl ?_
    exact ⟨rfl, hfin⟩
  rw [decide_eq_false h1] at Q1
  by_cases h2 : tx < 1 ∨ 4096 < tx
  · rw [decide_eq_true h2] at Q2
    clear h1 h h2
    go_enter Try.func35, Try.ntmps35
    go_upto_region 1 with fail
    rw [HW.out, HR.out]
    go_wp2_with fail
    refine Calls.mono Q1.out ?_
    rintro e w' ⟨rfl, rfl⟩
    go_wp2_with fail
    refine Calls.mono Q2.out ?_
    rintro e w' ⟨rfl, rfl⟩
    go_wp2_with (first | (refine wpList_store_rp (.tmp 8) (.tmp 26) rfl rfl R rz rz rfl rfl res rfl ?_))
    intro w5 hR5 k5
    have hfin := HF.out w5 k5
    clear k5 res
    go_wp2
    (try simp only [Exit.inBlock, Exit.then])
    refine bodyPost_ret (results_rp_tmp rfl _ _ R rz rfl hR5) rfl ?_
    exact ⟨rfl, hfin⟩
  rw [decide_eq_false h2] at Q2
  by_cases h3 : pool < 1 ∨ 8192 < pool
  · rw [decide_eq_true h3] at Q3
    clear h1 h h2 h3
    go_enter Try.func35, Try.ntmps35
    go_upto_region 1 with fail
    rw [HW.out, HR.out]
    go_wp2_with fail
    refine Calls.mono Q1.out ?_
    rintro e w' ⟨rfl, rfl⟩
    go_wp2_with fail
    refine Calls.mono Q2.out ?_
    rintro e w' ⟨rfl, rfl⟩
    go_wp2_with fail
    refine Calls.mono Q3.out ?_
    rintro e w' ⟨rfl, rfl⟩
    go_wp2_with (first | (refine wpList_store_rp (.tmp 8) (.tmp 26) rfl rfl R rz rz rfl rfl res rfl ?_))
    intro w5 hR5 k5
    have hfin := HF.out w5 k5
    clear k5 res
    go_wp2
    (try simp only [Exit.inBlock, Exit.then])
    refine bodyPost_ret (results_rp_tmp rfl _ _ R rz rfl hR5) rfl ?_
    exact ⟨rfl, hfin⟩
  rw [decide_eq_false h3] at Q3
  have h4 : size < 64 ∨ 65535 < size := by
    rcases h with h | h | h | h
    · exact absurd h h1
    · exact absurd h h2
    · exact absurd h h3
    · exact h
  rw [decide_eq_true h4] at Q4
  clear h1 h h2 h3 h4
  go_enter Try.func35, Try.ntmps35
  go_upto_region 1 with fail
  rw [HW.out, HR.out]
  go_wp2_with fail
  refine Calls.mono Q1.out ?_
  rintro e w' ⟨rfl, rfl⟩
  go_wp2_with fail
  refine Calls.mono Q2.out ?_
  rintro e w' ⟨rfl, rfl⟩
  go_wp2_with fail
  refine Calls.mono Q3.out ?_
  rintro e w' ⟨rfl, rfl⟩
  go_wp2_with fail
  refine Calls.mono Q4.out ?_
  rintro e w' ⟨rfl, rfl⟩
  go_wp2_with (first | (refine wpList_store_rp (.tmp 8) (.tmp 26) rfl rfl R rz rz rfl rfl res rfl ?_))
  intro w5 hR5 k5
  have hfin := HF.out w5 k5
  clear k5 res
  go_wp2
  (try simp only [Exit.inBlock, Exit.then])
  refine bodyPost_ret (results_rp_tmp rfl _ _ R rz rfl hR5) rfl ?_
  exact ⟨rfl, hfin⟩
end Go.Proofs.Ythknkfggpdhdbaa
namespace Go.Proofs.Ythknkfggpdhdbaa
open Go.RowKit

theorem news4 (w : World) (t : TypeId) (a b c d : Value) : ∀ j u, ([a, b, c, d] : List Value)[j]? = some u → (w.alloc (.cells #[a, b, c, d] t)).cell? ((⟨w.heap.size, 0, none⟩ : Addr).add j) = some u := by
  intro j u hu
  rw [Addr.add_lit, Nat.zero_add, World.cell?_alloc_at _ _ _ _ rfl]
  simpa using hu
theorem Nw.mid {w wr w1 : World} {R rx tx size k : Nat} {a : Option Addr} {c : Nat} (h : Nw w wr R rx tx size k a c) (o : Obj) (hg : (wr.alloc o).grownBy w1 (Value.slice a k c).ownBlock) : w1.cell? ⟨R + 1, 3, none⟩ = some (.slice a k c) ∧ w1.frozen? ⟨R + 1, 3, none⟩ = false := by
  have b1 : Below (R + 2) wr w1 := ((Below.refl (R + 2) wr).alloc h.sz o).grown hg (by have := h.sz; simp; omega) (fun q hq => (h.row.lt q hq).1)
  have hb1 : w1.heap[R + 1]? = _ := (b1.block (R + 1) (by omega)).trans h.box
  exact ⟨by simp [World.cell?, hb1, frV, RV.cells, rpCells, freshL_len], by simp [World.frozen?, hb1]⟩
theorem Nw.fin {w wr : World} {R rx tx size k : Nat} {a : Option Addr} {c : Nat} (h : Nw w wr R rx tx size k a c) (hk : k ≤ 8192) : wr.cell? ⟨R + 1, 4, none⟩ = some (.int .i64 0) ∧ wr.frozen? ⟨R + 1, 4, none⟩ = false ∧ ∀ w5, w5 = wr.setCell ⟨R + 1, 4, none⟩ (.int .i64 (k : Int)) → RpAt w5 (R + 1) (frV rx tx size a c k k) ∧ RpAt w5 R rz ∧ ∀ w6, Ch (fun q => q = R) w5 w6 → RV.ok w6 (frV rx tx size a c k k) ∧ (∀ p, a = some p → w.heap.size ≤ p.block ∧ p.block < w6.heap.size) ∧ Below w.heap.size w w6 := by
  have hb : wr.heap[R + 1]? = _ := h.box
  refine ⟨by simp [World.cell?, hb, frV, RV.cells, rpCells], by simp [World.frozen?, hb], fun w5 e => ?_⟩
  have kk : Ch (fun q => q = R + 1) wr w5 := by rw [e]; exact (Ch.refl (fun q => q = R + 1) wr).set ⟨R + 1, 4, none⟩ _ rfl
  have G := heap_setCell_same wr (R + 1) 4 _ _ (.int .i64 (k : Int)) hb
  have h0 := h.at'
  have row5 := kk.owns h.row (fun g hg e' => by have := (h.row.lt g hg).1; omega)
  refine ⟨?_, RpAt.ch h.res kk (show ¬ R = R + 1 by omega), fun w6 k6 => ?_⟩
  · rw [e]
    unfold RpAt
    rw [G]
    simp [RV.cells, rpCells, frV]
  · have row6 := k6.owns row5 (fun g hg e' => by have := (h.row.lt g hg).1; omega)
    refine ⟨⟨fresh_bufs row6 hk, by show (freshL k).length ≤ _; rw [freshL_len]; exact hk, by show k ≤ _; omega⟩, fun p hp => ?_, (h.bel.trans (kk.below (fun q e' => by omega) h.bel.size)).trans (k6.below (fun q e' => by omega) (by have := h.bel.size; have := kk.size; omega))⟩
    subst hp
    have := row6.lt p.block rfl
    omega
set_option maxRecDepth 100000 in
set_option maxHeartbeats 1600000 in
theorem newR_yes (w : World) (rx tx pool size : Nat) (h1 : 1 ≤ rx ∧ rx ≤ 4096) (h2 : 1 ≤ tx ∧ tx ≤ 4096) (h3 : 1 ≤ pool ∧ pool ≤ 8192) (h4 : 64 ≤ size ∧ size ≤ 65535) :
    Calls Try.prog 35 #[.int .i64 rx, .int .i64 tx, .int .i64 pool, .int .i64 size] w fun e w' => ∃ a c, e = .returned (.tuple #[.agg (frV rx tx size a c pool pool).cells, .int .i64 0]) ∧ RV.ok w' (frV rx tx size a c pool pool) ∧ (∀ p, a = some p → w.heap.size ≤ p.block ∧ p.block < w'.heap.size) ∧ Below w.heap.size w w' := by
  obtain ⟨i0, hii, hz0, hz1, hz2⟩ := info_parts Try.infoBufR
  obtain ⟨W, hW⟩ : ∃ W, W = w.alloc (.cells #[.int .i64 0, .int .i64 0, .int .i64 0, .slice none 0 0, .int .i64 0] 26) := ⟨_, rfl⟩
  obtain ⟨R, hR⟩ : ∃ R, R = w.heap.size := ⟨_, rfl⟩
  have bel : Below w.heap.size w W := by rw [hW]; exact (Below.refl _ _).alloc (Nat.le_refl _) _
  have res : RpAt W R rz := by rw [hW, hR]; exact rpAt_new w rz
  have hsz : W.heap.size = R + 1 := by rw [hW, hR]; simp
  have HR : Hid (w.heap.size = R) := hR.symm
  have HW : Hid (w.alloc (.cells #[.int .i64 0, .int .i64 0, .int .i64 0, .slice none 0 0, .int .i64 0] 26) = W) := hW.symm
  have HSZ : Hid _ := hsz
  have Q1 : Hid _ := out_any rx 1 4096 W
  have Q2 : Hid _ := out_any tx 1 4096 W
  have Q3 : Hid _ := out_any pool 1 8192 W
  have Q4 : Hid _ := out_any size 64 65535 W
  rw [decide_eq_false (by omega)] at Q1 Q2 Q3 Q4
  have HS : Hid (Nw w (W.alloc (.cells #[.int .i64 rx, .int .i64 tx, .int .i64 size, .slice none 0 0, .int .i64 0] 26)) R rx tx size 0 none 0) := by
    have b2 := bel.alloc bel.size (.cells #[.int .i64 rx, .int .i64 tx, .int .i64 size, .slice none 0 0, .int .i64 0] 26)
    refine ⟨World.ownsRow_nil _ _ _ _, ?_, ?_, b2, hR, by simp; omega⟩
    · have := heap_alloc_new W (.cells #[.int .i64 rx, .int .i64 tx, .int .i64 size, .slice none 0 0, .int .i64 0] 26)
      rw [hsz] at this
      exact this
    · unfold RpAt
      rw [heap_alloc_old _ _ (by omega)]
      exact res
  clear hW hR bel res hsz
  go_enter Try.func35, Try.ntmps35
  go_upto_region 1 with fail
  rw [HW.out, HR.out]
  go_wp2_with fail
  refine Calls.mono Q1.out ?_
  rintro e w' ⟨rfl, rfl⟩
  go_wp2_with fail
  refine Calls.mono Q2.out ?_
  rintro e w' ⟨rfl, rfl⟩
  go_wp2_with fail
  refine Calls.mono Q3.out ?_
  rintro e w' ⟨rfl, rfl⟩
  go_wp2_with fail
  refine Calls.mono Q4.out ?_
  rintro e w' ⟨rfl, rfl⟩
  clear Q1 Q2 Q3 Q4
  go_upto_region 4 with fail
  rw [HSZ.out]
  obtain ⟨W2, hW2⟩ : ∃ W2, W2 = W.alloc (.cells #[.int .i64 rx, .int .i64 tx, .int .i64 size, .slice none 0 0, .int .i64 0] 26) := ⟨_, rfl⟩
  rw [← hW2] at HS ⊢
  clear hW2
  go_wp2
  go_loopw [11] (fun ix wr => ∃ (k : Nat) (a : Option Addr) (c : Nat), k ≤ pool ∧ ix = .int .i64 k ∧ Nw w wr R rx tx size k a c) (fun ix _ => pool - (intOf ix).toNat)
  case atStart => exact ⟨0, none, 0, Nat.zero_le _, rfl, HS.out⟩
  case round =>
    obtain ⟨k, a, c, hk, rfl, hN⟩ := hrel
    have hbox := hN.box
    by_cases hlt : k < pool
    · have c3 : wr.cell? ⟨R + 1, 3, none⟩ = some (.slice a k c) := by have := hbox.c3; simp only [frV, freshL_len] at this; exact this
      have hrow := hN.row.alloc (.cells #[.int .i64 1, .int .i64 (k : Int), .int .i64 0, .slice none 0 0] 108)
      have hbase : R + 2 ≤ (wr.alloc (.cells #[.int .i64 1, .int .i64 (k : Int), .int .i64 0, .slice none 0 0] 108)).heap.size := by have := hN.sz; simp; omega
      have HN : Hid _ := hN
      obtain ⟨xs, hxs⟩ : ∃ xs, xs = (freshL k).flatMap RB.cells := ⟨_, rfl⟩
      have HXS : Hid (xs ++ [.int .i64 1, .int .i64 (k : Int), .int .i64 0, .slice none 0 0] = (freshL (k + 1)).flatMap RB.cells) := by show _ = _; rw [hxs, freshL_flat]
      rw [← hxs] at hrow
      clear hN hbox hxs
      go_wp2_with (first | (at_builtin; refine wpList_append_own _ rfl (.tmp 37) (.tmp 40) 24 rfl (R + 2) 108 i0 (.agg #[.int .i64 0, .int .i64 0, .int .i64 0, .slice none 0 0]) 4 48 Try.underlying24 hii hz0 hz1 hz2 rfl (by decide) (.slice a k c) k xs rfl hrow ⟨wr.heap.size, 0, none⟩ 1 1 [.int .i64 1, .int .i64 (k : Int), .int .i64 0, .slice none 0 0] rfl rfl (news4 _ _ _ _ _ _) (by intro u hu; simp at hu; rcases hu with rfl | rfl | rfl | rfl <;> rfl) (by unfold maxLen; omega) (by omega) hbase ?_))
      intro v' w1 hown hgr _
      rw [HXS.out] at hown
      obtain ⟨m1, m2⟩ := HN.out.mid _ hgr
      obtain ⟨w2, hw2⟩ : ∃ w2, w2 = w1.setCell ⟨R + 1, 3, none⟩ v' := ⟨_, rfl⟩
      obtain ⟨a', c', rfl, hN'⟩ := HN.out.push _ hown hgr hw2
      have HN' : Hid _ := hN'
      have HW2 : Hid _ := hw2
      clear hN' hw2 hown hgr hrow c3 hbase
      go_wp2
      rw [← HW2.out]
      go_roundw
      case rel => exact ⟨k + 1, a', c', by omega, by go_num, HN'.out⟩
      case measure => simp [intOf]; omega
    · obtain rfl : k = pool := by omega
      obtain ⟨m1, m2, hf⟩ := hN.fin h3.2
      obtain ⟨w5, hw5⟩ : ∃ w5, w5 = wr.setCell ⟨R + 1, 4, none⟩ (.int .i64 (k : Int)) := ⟨_, rfl⟩
      obtain ⟨hbox5, hres5, hend⟩ := hf w5 hw5
      have HW5 : Hid _ := hw5
      have HE : Hid _ := hend
      clear hN hbox hw5 hf hend
      go_upto_region 9 with fail
      rw [← HW5.out]
      go_wp2_with (first | (refine wpList_load_rp (.tmp 10) rfl (R + 1) (frV rx tx size a c k k) rfl hbox5 rfl ?_) | (refine wpList_store_rp (.tmp 8) (.tmp 45) rfl rfl R rz (frV rx tx size a c k k) rfl rfl hres5 rfl ?_))
      intro w6 hR6 k6
      obtain ⟨e1, e2, e3⟩ := HE.out w6 k6
      have E1 : Hid _ := e1
      have E2 : Hid _ := e2
      have E3 : Hid _ := e3
      clear e1 e2 e3 k6 hbox5 hres5 m1 m2
      go_wp2
      (try simp only [Exit.inBlock, Exit.then])
      refine bodyPost_ret (results_rp_tmp rfl _ _ R (frV rx tx size a c k k) rfl hR6) rfl ?_
      exact ⟨a, c, rfl, E1.out, E2.out, E3.out⟩
end Go.Proofs.Ythknkfggpdhdbaa
